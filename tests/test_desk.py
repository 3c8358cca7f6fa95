"""The desk: sheets of commands against answers of the test's own, and lines that are no commands."""

import itertools
import random
import re
import time
import unittest

from boundedlevels.desk import answers, is_command
from boundedlevels.errors import BadLine
from boundedlevels.heaps import highest_heap, lowest_heap
from boundedlevels.leasts import least_row
from boundedlevels.ways import Way, way_of
from boundedlevels.woven import highest_woven, lowest_woven
from reckoning import HUGE, all_starts, end
from test_texts import EVENT, NUMBER
from test_woven import row_of, weavings_of

NAMES = ("a", "b", "ann", "zzzzzzzz")
NAME = "[a-z]{1,8}"
PLACE = "(?:0|[1-9][0-9]*)"
SHAPES = {
    "open": f" {NAME} {NUMBER}", "do": f" {NAME} (?:{EVENT})", "late": f" {NAME} {PLACE} (?:{EVENT})",
    "drop": f" {NAME} {PLACE}", "back": f" {NAME}", "level": f" {NAME}", "row": f" {NAME}", "way": f" {NAME}",
    "least": f" {NAME}", "would": f" {NAME} {PLACE} (?:{EVENT})", "from": f" {NAME} {NUMBER}",
    "lost": f" {NAME} {PLACE}", "heap": f" {NAME}", "woven": f" {NAME} {NAME}", "alike": f" {NAME} {NAME}", "names": "",
}
COMMAND = "|".join(word + shape for word, shape in SHAPES.items())


def is_right(line):
    return re.fullmatch(COMMAND, line, re.ASCII) is not None


def text_of(event):
    word, number = event
    return f"{number:+}" if word == "add" else f"{'>=' if word == 'floor' else '<='} {number}"


def texts_of(row):
    return ", ".join(text_of(event) for event in row) or "-"


class Desk:
    """The answers of the test's own: accounts are lists [start, row, rows to take back]."""

    def __init__(self):
        self.accounts = {}

    def answer(self, word, names, place=None, event=None, number=None):
        if word == "names":
            return " ".join(sorted(self.accounts)) or "-"
        if word == "open":
            if names[0] in self.accounts:
                return "taken"
            self.accounts[names[0]] = [number, (), []]
            return "done"
        if any(name not in self.accounts for name in names):
            return "no account"
        account, other = self.accounts[names[0]], self.accounts[names[-1]]
        if place is not None and place > len(account[1]) - (word in ("drop", "lost")):
            return "no place"
        return self.answer_there(word, account, other, place, event, number)

    def answer_there(self, word, account, other, place, event, number):
        start, row, past = account
        if word in ("do", "late", "drop", "would"):
            at = len(row) if word == "do" else place
            put = row[:at] + row[at + 1:] if word == "drop" else (*row[:at], event, *row[at:])
            if word != "would":
                past.append(row)
                account[1] = put
            return f"{end(put, start)}"
        if word == "back":
            if not past:
                return "nothing done"
            account[1] = past.pop()
            return f"{end(account[1], start)}"
        if word == "lost":
            without = row[:place] + row[place + 1:]
            if all(end(row, at) == end(without, at) for at in all_starts(row, without)):
                return "never"
            return "yes" if end(row, start) != end(without, start) else "no"
        return {
            "level": lambda: f"{end(row, start)}", "row": lambda: texts_of(row), "way": lambda: way_of(row).text,
            "least": lambda: texts_of(least_row(way_of(row))), "from": lambda: f"{end(row, number)}",
            "heap": lambda: self.heap(row, start), "woven": lambda: self.woven(row, other[1], start),
            "alike": lambda: "yes" if way_of(row) == way_of(other[1]) else "no",
        }[word]()

    def heap(self, row, start):
        if len(row) > 5:
            least, greatest = lowest_heap(row), highest_heap(row)
            return f"{least(start)} {greatest(start)}"
        ends = [end(order, start) for order in itertools.permutations(row)]
        return f"{min(ends)} {max(ends)}"

    def woven(self, row, other, start):
        if len(row) + len(other) > 8:
            least, greatest = lowest_woven((row, other)), highest_woven((row, other))
            return f"{least(start)} {greatest(start)}"
        ends = [end(row_of((row, other), weaving), start) for weaving in weavings_of((row, other))]
        return f"{min(ends)} {max(ends)}"


def drawn_event(rng, reach):
    return (rng.choice(("add", "add", "floor", "cap")), rng.randint(-reach, reach))


def drawn_command(rng, reach, many, names=NAMES):
    """A line, and what answer takes for it; many: about how many EVENTs there are."""
    word = rng.choice((*SHAPES, "do", "do", "do", "late", "late", "drop", "lost"))
    used = [rng.choice(names) for _ in range({"names": 0, "woven": 2, "alike": 2}.get(word, 1))]
    parts, given = [word, *used], {}
    if word in ("late", "drop", "would", "lost"):
        given["place"] = rng.choice((rng.randint(0, many + 1), rng.randint(0, many), 0, HUGE if many % 5 == 0 else 1))
        parts.append(str(given["place"]))
    if word in ("do", "late", "would"):
        given["event"] = drawn_event(rng, reach)
        parts.append(text_of(given["event"]))
    if word in ("open", "from"):
        given["number"] = rng.randint(-reach, reach)
        parts.append(str(given["number"]))
    return " ".join(parts), word, used, given


def drawn_sheet(rng, reach, many, names=NAMES):
    """Lines with the answers of the test's own."""
    desk, lines, told = Desk(), [], []
    for count in range(many):
        line, word, used, given = drawn_command(rng, reach, count // 6, names)
        if count < 3:
            line, word, used, given = f"open {names[count % 2]} {count}", "open", [names[count % 2]], {"number": count}
        lines.append(line)
        told.append(desk.answer(word, used, **given))
    return lines, told


class Answers(unittest.TestCase):
    def test_drawn_sheets(self):
        rng = random.Random("sheets")
        seen = set()
        for reach in (2, 9, HUGE):
            for _ in range(80):
                lines, told = drawn_sheet(rng, reach, rng.randint(1, 40))
                self.assertEqual(answers("\n".join(lines)), told, lines)
                for line, answer in zip(lines, told):
                    refused = answer if answer[0] in "ntd" or answer in ("yes", "never") else "answered"
                    seen.add((line.split(" ")[0], refused))
        for word in SHAPES:
            if word not in ("open", "names", "lost", "alike"):
                self.assertIn((word, "answered"), seen)
            if word not in ("open", "names"):
                self.assertIn((word, "no account"), seen)
        self.assertTrue({("open", "done"), ("open", "taken"), ("back", "nothing done"), ("lost", "never"),
                         ("lost", "yes"), ("lost", "no"), ("lost", "no place"), ("late", "no place"),
                         ("drop", "no place"), ("would", "no place"), ("alike", "yes"), ("alike", "no")} <= seen, seen)

    def test_sheets_of_sixty_lines(self):
        rng = random.Random("sixty")
        began = time.monotonic()
        for reach in (4, HUGE):
            for _ in range(4):
                lines, told = drawn_sheet(rng, reach, 60, ("a", "b"))
                self.assertEqual(answers("\n".join(lines)), told, lines)
        events = ["do a +5", "do b >= 3", "do a <= 7", "do b -2"] * 9
        sheet = ["open a 0", "open b 1", *events, "woven a b", "woven b a", "heap a", "least a", "names"]
        least, greatest = [function(((("add", 5), ("cap", 7)) * 9, (("floor", 3), ("add", -2)) * 9))
                           for function in (lowest_woven, highest_woven)]
        self.assertEqual(answers("\n".join(sheet))[-5], f"{least(0)} {greatest(0)}")
        heap = answers("\n".join(["open a 0", *["do a +5"] * 29, *["do a -2"] * 28, "heap a", "row a"]))
        self.assertEqual(heap[-2:], ["89 89", ", ".join(["+5"] * 29 + ["-2"] * 28)])
        self.assertLess(time.monotonic() - began, 20)

    def test_no_account_and_no_place(self):
        sheet = (
            ("level a", "no account"), ("open a 0", "done"), ("open a 7", "taken"), ("level a", "0"),
            ("drop a 0", "no place"), ("late a 1 +1", "no place"), ("would a 1 +1", "no place"),
            ("lost a 0", "no place"), ("lost b 7", "no account"), ("drop b 9", "no account"),
            ("late b 9 +1", "no account"), ("would b 9 +1", "no account"), ("woven a b", "no account"),
            ("woven b a", "no account"), ("woven b c", "no account"), ("alike a b", "no account"),
            ("alike b a", "no account"), ("alike b b", "no account"), ("woven b b", "no account"),
            ("woven a a", "0 0"), ("alike a a", "yes"), ("back a", "nothing done"), ("late a 0 +1", "1"),
            ("late a 2 +1", "no place"), ("would a 2 +1", "no place"), ("drop a 1", "no place"),
            ("lost a 1", "no place"), ("lost a 0", "yes"), ("do b +1", "no account"), ("back b", "no account"),
            ("row b", "no account"), ("way b", "no account"), ("least b", "no account"), ("from b 1", "no account"),
            ("heap b", "no account"), ("names", "a"), (f"drop a {HUGE}", "no place"), ("drop a 0", "0"),
        )
        self.assertEqual(answers("\n".join(line for line, _ in sheet)), [answer for _, answer in sheet])

    def test_what_is_refused_changes_nothing(self):
        self.assertEqual(answers("open a 3\ndo a +1\nlate a 2 +5\ndrop a 1\nback b\nopen a 9\nrow a\nlevel a\nback a\n"
                                 "back a\nrow a\nlevel a"),
                         ["done", "4", "no place", "no place", "no account", "taken", "+1", "4", "3", "nothing done",
                          "-", "3"])
        # What is only asked is no deed, either.
        self.assertEqual(answers("open a 3\ndo a +1\nwould a 0 <= 0\nfrom a 9\nlost a 0\nheap a\nwoven a a\nalike a a\n"
                                 "least a\nback a\nback a"),
                         ["done", "4", "1", "10", "yes", "4 4", "5 5", "yes", "+1", "3", "nothing done"])

    def test_same_name_twice(self):
        sheet = "open a 1\ndo a +5\ndo a <= 3\nwoven a a\nalike a a\nopen b 0\ndo b <= 3\nwoven b a\nwoven a b"
        self.assertEqual(answers(sheet), ["done", "6", "3", "3 3", "yes", "done", "0", "3 3", "3 3"])
        row = (("add", -5), ("floor", 0))
        ends = [end(row_of((row, row), weaving), 2) for weaving in weavings_of((row, row))]
        self.assertEqual(answers("open a 2\ndo a -5\ndo a >= 0\nwoven a a")[-1], f"{min(ends)} {max(ends)}")

    def test_names(self):
        self.assertEqual(answers("names\nopen b 0\nnames\nopen ab 0\nopen a 0\nopen aa 0\nnames"),
                         ["-", "done", "b", "done", "done", "done", "a aa ab b"])
        # Words of commands are names, too.
        self.assertEqual(answers("open open 5\nopen names 0\nnames\nopen names 1\nlevel open"),
                         ["done", "done", "names open", "taken", "5"])

    def test_numbers_of_thirty_digits(self):
        self.assertEqual(answers(f"open a {HUGE}\ndo a +{HUGE}\ndo a <= {HUGE}\nfrom a {-HUGE}\nway a\nleast a\nrow a"),
                         ["done", f"{2 * HUGE}", f"{HUGE}", "0", f"{HUGE} - {HUGE}", f"+{HUGE}, <= {HUGE}",
                          f"+{HUGE}, <= {HUGE}"])
        self.assertEqual(answers(f"open a {-HUGE}\ndo a -{HUGE}\ndo a >= {-HUGE}\nlost a 0\nlost a 1\nheap a\nway a"),
                         ["done", f"{-2 * HUGE}", f"{-HUGE}", "no", "yes", f"{-2 * HUGE} {-HUGE}",
                          f"{-HUGE} {-HUGE} -"])

    def test_kinds(self):
        told = answers(sheet="names")
        self.assertEqual((type(told), told), (list, ["-"]))
        told.append("mine")
        self.assertEqual(answers("names"), ["-"])
        self.assertIs(is_command(line="names"), True)
        self.assertEqual(Way(0).text, answers("open a 0\nway a")[1])


class Lines(unittest.TestCase):
    LINES = ("open ann 5", "open a -5", "open zzzzzzzz 0", "do ann +8", "do ann -8", "do ann >= 5", "do ann <= -3",
             "do ann +0", "late ann 1 -6", "late ann 0 >= 0", "late ann 10 <= 7", "drop ann 0", "drop ann 12",
             "back ann", "level ann", "row ann", "way ann", "least ann", "would ann 0 >= 9", "would a 3 +1",
             "from ann 0", "from ann -10", "lost ann 2", "heap ann", "woven ann b", "woven a a", "alike a b", "names")

    def test_right_lines(self):
        for line in self.LINES:
            self.assertIs(is_command(line), True, line)
            self.assertIs(is_right(line), True, line)
            self.assertEqual(len(answers(line)), 1)

    def test_lines_bent_by_one_sign(self):
        wrong = 0
        for line in self.LINES:
            for at in range(len(line) + 1):
                bent = [line[:at] + line[at + 1:]] + [line[:at] + sign + line[at + skip:] for skip in (0, 1)
                                                      for sign in " 0-+<>=,azAZ5\n\t\r_."]
                for other in bent:
                    right = is_right(other)
                    wrong += not right
                    self.assertIs(is_command(other), right, repr(other))
                    self.check_sheet(other)
        self.assertGreater(wrong, 5000)

    def check_sheet(self, sheet):
        """A sheet of right lines has an answer for each; otherwise the first wrong one is told."""
        wrong = [number for number, line in enumerate(sheet.split("\n")) if not is_right(line)]
        if not wrong:
            self.assertEqual(len(answers(sheet)), sheet.count("\n") + 1)
            return
        with self.assertRaises(BadLine) as caught:
            answers(sheet)
        self.assertEqual(caught.exception.number, wrong[0], repr(sheet))

    def test_wrong_lines(self):
        for line in ("", " ", "names ", " names", "Names", "names a", "name", "open", "open a", "open a 5 5",
                     "open  a 5", "open a  5", "open a 05", "open a -0", "open a +5", "open a 5 ", "open A 5",
                     "open a1 5", "open aaaaaaaaa 5", "open  5", "open a five", "do a", "do a 5", "do a +5 ",
                     "do a +5, -3", "do a -",
                     "do a >=5", "do a >=  5", "do a > 5", "do a >= 05", "do a >= +5", "do +5", "do a +05", "do a -0",
                     "late a +1", "late a -1 +1", "late a 00 +1", "late a 1 1", "late a 1", "late a 1 +1 +1",
                     "drop a", "drop a -1", "drop a 01", "drop a 1 1", "drop a x", "back", "back a b", "level", "row",
                     "way a b", "least", "would a +1", "would a 0", "from a", "from a -0", "from a 1 2", "lost a",
                     "lost a -1", "heap", "heap a b", "woven a", "woven a b c", "alike a", "alike a b c", "close a 1",
                     "move a 0 1", "names\n", "\nnames", "open a 5\n", "open a\u00a05", "open \u00e4 5",
                     "open a \u0665", "do a +\u0665", "drop a \u00b2", "do a \u2265 5", "names\r", "names\u2028",
                     "open a 5\x0b"):
            with self.subTest(line=line):
                self.assertIs(is_command(line), False)
                self.assertIs(is_right(line), False)
                self.check_sheet(line)
                self.check_sheet("names\nopen a 0\n" + line + "\nnames\n" + line)

    def test_bad_line_comes_ahead_of_all_answers(self):
        for number in (0, 1, 30, 59):
            lines = ["level a"] * 60
            lines[number] = "level A"
            lines[59] = "nothing"
            with self.assertRaises(BadLine) as caught:
                answers("\n".join(lines))
            self.assertEqual(caught.exception.number, number)
        for sheet, number in (("", 0), ("\n", 0), ("names\n", 1), ("\nnames", 0), ("names\n\nnames", 1)):
            with self.subTest(sheet=sheet), self.assertRaises(BadLine) as caught:
                answers(sheet)
            self.assertEqual(caught.exception.number, number)


if __name__ == "__main__":
    unittest.main()
