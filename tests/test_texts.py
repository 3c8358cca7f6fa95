"""Texts: what is written, read back, and what is not written as it must be."""

import itertools
import random
import re
import unittest

from boundedlevels.errors import BadText
from boundedlevels.plain import is_row
from boundedlevels.texts import event_text, row_in, row_text, shown, way_in
from boundedlevels.ways import Way
from reckoning import FAR, HUGE, bound_triples, every_row, listed, random_row, random_rows, stepped

NUMBER = "(?:0|-?[1-9][0-9]*)"
EVENT = rf"\+(?:0|[1-9][0-9]*)|-[1-9][0-9]*|[<>]= {NUMBER}"


def event_of(piece):
    """The EVENT of a piece, by a pattern; None if it is none."""
    if not re.fullmatch(EVENT, piece, re.ASCII):
        return None
    word = {">": "floor", "<": "cap"}.get(piece[0], "add")
    return (word, int(piece[3:] if word != "add" else piece))


def row_of(text):
    """The ROW of a text, or the number of its first wrong piece."""
    if text == "-":
        return ()
    events = [event_of(piece) for piece in text.split(", ")]
    return events.index(None) if None in events else tuple(events)


def way_of(text):
    """(shift, floor, cap) of a text, or the number that is told of it."""
    pieces = text.split(" ")
    for place, piece in enumerate(pieces[:3]):
        if piece != "-" and not re.fullmatch(NUMBER, piece, re.ASCII):
            return place
    if len(pieces) != 3:
        return 3 if len(pieces) > 3 else len(pieces)
    shift, floor, cap = [None if piece == "-" else int(piece) for piece in pieces]
    if None not in (floor, cap) and floor > cap:
        return 1
    constant = floor is not None and floor == cap
    return 0 if constant != (shift is None) else (shift, floor, cap)


def wrong_place(function, text):
    """The place of the BadText that is raised; None if none is."""
    try:
        function(text)
    except BadText as error:
        return error.place
    return None


class Writing(unittest.TestCase):
    def test_events(self):
        for number, signed in ((0, "+0"), (5, "+5"), (-5, "-5"), (10, "+10"), (HUGE, "+1" + "0" * 30),
                               (-HUGE, "-1" + "0" * 30)):
            self.assertEqual(event_text(("add", number)), signed)
            self.assertEqual(event_text(["add", number]), signed)
            plain = signed.lstrip("+")
            self.assertEqual(event_text(("floor", number)), ">= " + plain)
            self.assertEqual(event_text(["cap", number]), "<= " + plain)

    def test_rows(self):
        self.assertEqual((row_text(()), row_text([])), ("-", "-"))
        for row in random_rows("texts", 60, 60):
            expected = ", ".join(event_text(event) for event in row) if row else "-"
            self.assertEqual((row_text(row), row_text(listed(row))), (expected, expected))


class Reading(unittest.TestCase):
    def test_rows_are_read_back(self):
        rng = random.Random("back")
        for row in [*random_rows("back", 150, 60), *every_row(1, 3), *rng.sample(list(every_row(2, 2)), 60)]:
            told = row_in(row_text(row))
            self.assertEqual(told, row)
            self.assertIs(is_row(told), True)
        row = random_row(rng, 60, 10 ** 40)
        self.assertEqual(row_in(row_text(row)), row)

    def test_ways_are_read_back(self):
        for triple in [*bound_triples(2), (HUGE, -HUGE, HUGE), (None, -HUGE, -HUGE), (-10 ** 40, None, 10 ** 40)]:
            way = Way(*triple)
            self.assertEqual(way_in(way.text), way)
            self.assertEqual(way_in(way.text).text, way.text)

    def test_by_names(self):
        self.assertEqual((row_in(text="-"), way_in(text="0 - -"), event_text(event=("cap", 1)), row_text(row=())),
                         ((), Way(0), "<= 1", "-"))
        self.assertEqual(shown(start=3, row=[["cap", 1]]), ["3", "<= 1: 1 (cut 2)"])

    def check_row(self, text):
        expected = row_of(text)
        if isinstance(expected, tuple):
            self.assertEqual(row_in(text), expected, text)
        else:
            self.assertEqual(wrong_place(row_in, text), expected, text)

    def check_way(self, text):
        expected = way_of(text)
        if isinstance(expected, tuple):
            way = way_in(text)
            self.assertEqual((way.shift, way.floor, way.cap), expected, text)
        else:
            self.assertEqual(wrong_place(way_in, text), expected, text)

    def test_all_short_texts(self):
        for length in range(6):
            for signs in itertools.product("+-<= ,05", repeat=length):
                if length < 5 or signs[0] in "+<":
                    self.check_row("".join(signs))
        for length in range(7):
            for signs in itertools.product("-01 ", repeat=length):
                self.check_way("".join(signs))

    def test_bent_texts(self):
        rng = random.Random("bent")
        signs = "+-<>= ,0123456789ax\n\t"
        for row in random_rows("bent", 60, 5, (12, HUGE)):
            text = row_text(row)
            for _ in range(30):
                at = rng.randint(0, len(text))
                self.check_row(text[:at] + rng.choice(signs) + text[at:])
                self.check_row(text[:at] + text[at + 1:])
                self.check_row(text[:at] + rng.choice(signs) + text[at + 1:])
        for triple in rng.sample(bound_triples(2), 40) + [(HUGE, -HUGE, HUGE)]:
            text = Way(*triple).text
            for at in range(len(text) + 1):
                for sign in signs:
                    self.check_way(text[:at] + sign + text[at:])
                    self.check_way(text[:at] + sign + text[at + 1:])
                self.check_way(text[:at] + text[at + 1:])

    def test_wrong_rows(self):
        wrongs = {
            "": 0, " ": 0, "--": 0, "- ": 0, " -": 0, "-, -": 0, "-, +5": 0, "+5, -": 1, "+5, -, +5": 1, "5": 0, "+": 0,
            "-0": 0, "+05": 0, "-05": 0, "+00": 0, "+-5": 0, "--5": 0, "++5": 0, "+ 5": 0, "- 5": 0, ">= -0": 0,
            ">= 05": 0, ">= +5": 0, ">= ": 0, ">=": 0, ">=5": 0, ">=  5": 0, "> 5": 0, "< 5": 0, "= 5": 0, "<= 5 ": 0,
            " <= 5": 0, "<= 5, ": 1, ", <= 5": 0, "+5,+5": 0, "+5,  +5": 1, "+5 , +5": 0, "+5, , +5": 1, "+5, +5,": 1,
            "+5, +5, x": 2, "+5, 05, x": 1, "add 5": 0, "+5a": 0, "+5.0": 0, "+1e3": 0, "+1_000": 0, "+0x5": 0,
            "+5\n": 0, "\n+5": 0, "+5, \n+5": 1, "+\t5": 0, "<= -": 0, "<= --5": 0, "=> 5": 0, "=< 5": 0, "+5; +5": 0,
            "+\u0665": 0, "<= \u00b2": 0, "+\uff15": 0, "-\u0665": 0, "\u22125": 0, ">= \u0665": 0, "\u2265 5": 0,
            "+5,\u00a0+5": 0, "+5, +5\u2028": 1, "+1\u0660": 0,
        }
        for text, place in wrongs.items():
            with self.subTest(text=text):
                self.assertEqual(wrong_place(row_in, text), place)

    def test_wrong_ways(self):
        wrongs = {
            "": 0, " ": 0, "  ": 0, "   ": 0, "-": 1, "5": 1, "- ": 1, "5 -": 2, "- 3": 2, "5 - ": 2, "5 -  ": 2,
            "5 - - -": 3, "5 - - ": 3, "5 - - x": 3, "1 5 3 9": 3, "- 1 2 3": 3, "x": 0, "5 x": 1, "5 5 x": 2,
            "x x x": 0,
            "+5 - -": 0, "05 - -": 0, "-0 - -": 0, "5 -0 -": 1, "5 03 -": 1, "5 - -0": 2, "5 - 00": 2, "5 - +1": 2,
            "5  - -": 1, " 5 - -": 0, "5 -  -": 2, "1 5 3": 1, "- 5 3": 1, "0 1 0": 1, "0 0 -1": 1, "1 3 3": 0,
            "0 0 0": 0, "- - -": 0, "- 3 -": 0, "- - 3": 0, "- 3 4": 0, "None 3 3": 0, "- none 3": 1, "5 - -\n": 2,
            "5\n- -": 0, "5\t- -": 0, "\u0665 - -": 0, "5 \u00b2 -": 1, "5 - \uff13": 2, "5\u00a0- -": 0, "--5 - -": 0,
            "5.0 - -": 0, "- 3 3 -": 3, "5 - - - x x": 3, "5, -, -": 0,
        }
        for text, place in wrongs.items():
            with self.subTest(text=text):
                self.assertEqual(wrong_place(way_in, text), place)

    def test_many_pieces(self):
        for many in (0, 1, 59, 60):
            text = ", ".join(["+5"] * many + ["oops"] + ["+5", "worse"])
            self.assertEqual(wrong_place(row_in, text), many)
        self.assertEqual(row_in(", ".join(["<= -7"] * 60)), (("cap", -7),) * 60)


class Shown(unittest.TestCase):
    def lines(self, row, start):
        levels = stepped(row, start)
        lines = [f"{start}"]
        for (word, number), ahead, behind in zip(row, levels, levels[1:]):
            text = {"add": f"+{number}" if number >= 0 else f"{number}", "floor": f">= {number}",
                    "cap": f"<= {number}"}[word]
            told = ""
            if word != "add" and behind != ahead:
                told = f" (cut {ahead - behind})" if behind < ahead else f" (lifted {behind - ahead})"
            lines.append(f"{text}: {behind}{told}")
        return lines

    def test_drawn_rows(self):
        rng = random.Random("shown")
        for row in [*random_rows("shown", 80, 60), *every_row(1, 2)]:
            for start in (0, 3, -3, rng.randint(-HUGE, HUGE), *FAR[:2]):
                told = shown(row, start)
                self.assertEqual(told, self.lines(row, start))
                self.assertEqual(shown(listed(row), start), told)

    def test_nothing_told_where_nothing_changes(self):
        row = (("floor", 3), ("cap", 3), ("add", 0), ("floor", 2), ("cap", 4))
        self.assertEqual(shown(row, 3), ["3", ">= 3: 3", "<= 3: 3", "+0: 3", ">= 2: 3", "<= 4: 3"])
        self.assertEqual(shown(row, -1)[:3], ["-1", ">= 3: 3 (lifted 4)", "<= 3: 3"])
        self.assertEqual(shown(row, 9)[:3], ["9", ">= 3: 9", "<= 3: 3 (cut 6)"])
        self.assertEqual((shown((), -HUGE), shown([], 0)), ([str(-HUGE)], ["0"]))


if __name__ == "__main__":
    unittest.main()
