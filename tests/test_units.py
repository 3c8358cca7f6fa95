"""What is lifted and cut, unit by unit, against levels stepped one by one."""

import random
import unittest

from boundedlevels.errors import NoPlace
from boundedlevels.units import (
    bottom_start, cut, cut_line, died_at, falls_to, fate, greatest_falling, least_reaching, lifted, lifted_line, living,
    reaches, safe_starts, top_start,
)
from reckoning import (
    FAR, HUGE, crossing_starts, every_row, listed, moved_up, random_row, random_rows, scaled, stepped, stretch_fault,
)


def lifted_and_cut(row, start):
    levels = stepped(row, start)
    changes = [(event[0], behind - ahead) for event, ahead, behind in zip(row, levels, levels[1:])]
    return (sum(change for word, change in changes if word == "floor"),
            -sum(change for word, change in changes if word == "cap"))


def fate_by_steps(row, unit):
    """The moment behind which the levels from both ends of the unit are equal, less one; None if there is none."""
    below, above = stepped(row, unit), stepped(row, unit + 1)
    for place in range(len(row)):
        if below[place + 1] == above[place + 1]:
            return place
    return None


def drawn_rows():
    """Short rows, some to sixty EVENTs, some without floors, without caps, without both, some that end at one level."""
    rng = random.Random("units")
    rows = [(), *rng.sample(list(every_row(3, 2)), 250), *random_rows("units", 100, 8)]
    rows += random_rows("units of sixty", 12, 60) + [random_row(rng, 60, reach) for reach in (3, HUGE)]
    for words in (("add", "floor"), ("add", "cap"), ("add",), ("floor", "cap"), ("floor",), ("cap",)):
        rows += [random_row(rng, many, reach, words) for many in (1, 2, 5, 60) for reach in (3, HUGE)]
    for row in random_rows("one level", 30, 5):
        level = rng.choice((0, -3, HUGE))
        rows += [row + (("floor", level), ("cap", level)), (("cap", level), ("add", 1), ("floor", 1 + level)) + row]
    return rows


ROWS = drawn_rows()


class LiftedAndCut(unittest.TestCase):
    def test_each_start(self):
        for row in ROWS:
            total = sum(number for word, number in row if word == "add")
            for start in crossing_starts(row):
                up, down = lifted_and_cut(row, start)
                self.assertEqual((lifted(row, start), cut(row, start)), (up, down), (row, start))
                self.assertEqual(stepped(row, start)[-1], start + total + up - down)

    def test_lines(self):
        for row in ROWS:
            (least, below), (bottom, above) = lifted_line(row), cut_line(row)
            self.assertEqual((below, above), living(row), row)
            if all(word != "floor" for word, _ in row):
                self.assertEqual((least, below), (0, None), row)
            if all(word != "cap" for word, _ in row):
                self.assertEqual((bottom, above), (0, None), row)
            for start in crossing_starts(row):
                up, down = lifted_and_cut(row, start)
                self.assertEqual(least + (0 if below is None else max(0, below - start)), up, (row, start))
                self.assertEqual(bottom + (0 if above is None else max(0, start - above)), down, (row, start))

    def test_low_floors_and_high_caps_have_lines_too(self):
        row = (("floor", -HUGE), ("cap", HUGE))
        self.assertEqual((lifted_line(row), cut_line(row)), ((0, -HUGE), (0, HUGE)))
        self.assertEqual(lifted_line((("add", 1), ("floor", HUGE), ("add", -9), ("floor", HUGE))), (0, HUGE + 8))
        self.assertEqual(lifted_line((("floor", HUGE), ("cap", HUGE), ("add", -9), ("floor", HUGE))), (9, HUGE))
        self.assertEqual(cut_line((("cap", -HUGE), ("floor", -HUGE), ("add", 5), ("cap", -HUGE))), (5, -HUGE))


class Units(unittest.TestCase):
    def test_fate(self):
        for row in ROWS:
            for unit in crossing_starts(row):
                self.assertEqual(fate(row, unit), fate_by_steps(row, unit), (row, unit))
        self.assertIs(type(fate((("floor", 5),), 0)), int)

    def test_living_and_died_at(self):
        for row in ROWS:
            units = crossing_starts(row)
            fates = {unit: fate_by_steps(row, unit) for unit in units}
            first, behind = living(row)
            died = {place: died_at(row, place) for place in range(len(row))}
            for unit in units:
                lives = (first is None or unit >= first) and (behind is None or unit < behind)
                self.assertIs(lives, fates[unit] is None, (row, unit))
                if fates[unit] is not None:
                    self.assertEqual(row[fates[unit]][0], "floor" if first is not None and unit < first else "cap")
                for place, stretch in died.items():
                    dies = stretch is not None and ((stretch[0] is None or unit >= stretch[0])
                                                    and (stretch[1] is None or unit < stretch[1]))
                    self.assertIs(dies, fates[unit] == place, (row, unit, place))
            for place, stretch in died.items():
                self.assertNotEqual(row[place][0] == "add" and stretch is not None, True)
                if stretch is not None:
                    self.assertIs(type(stretch), tuple)
                    self.assertTrue(None in stretch or stretch[0] < stretch[1], (row, stretch))
            self.assertIs(type(living(row)), tuple)

    def test_none_lives(self):
        told = {
            (("floor", 3), ("cap", 3)): (3, 3), (("floor", HUGE), ("cap", 0)): (HUGE, HUGE),
            (("cap", 0), ("floor", HUGE)): (0, 0), (("cap", 3), ("add", -9), ("floor", 0)): (3, 3),
            (("floor", 0), ("cap", 9), ("cap", 4), ("floor", 4)): (4, 4),
            (("floor", 0), ("cap", 9), ("floor", 4), ("cap", 4)): (4, 4),
            (("floor", 0), ("cap", 9), ("floor", 20)): (9, 9), (("floor", 0), ("cap", 9), ("cap", -20)): (0, 0),
        }
        for row, pair in told.items():
            self.assertEqual(living(row), pair, row)
        self.assertEqual(living(()), (None, None))
        self.assertEqual(died_at((("floor", 0), ("cap", 9), ("floor", 20)), 2), (0, 9))
        self.assertEqual(died_at((("floor", 0), ("cap", 9), ("cap", -20)), 2), (0, 9))
        self.assertIsNone(died_at((("floor", 0), ("cap", 0), ("cap", -20), ("floor", 9)), 3))

    def test_no_place(self):
        for row in ((("add", -5), ("floor", 0), ("cap", 6)), (("cap", 3),), (), [["floor", 3], ["cap", 3]]):
            for place in (-1, -len(row), -len(row) - 1, len(row), len(row) + 1, HUGE, -HUGE):
                if not 0 <= place < len(row):
                    with self.assertRaises(NoPlace) as caught:
                        died_at(row, place)
                    self.assertEqual(caught.exception.place, place)


def levels_for(row, rng):
    """Levels near the numbers of the ROW, near those that it comes to, and far ones."""
    numbers = [0, *[number for _, number in row], *stepped(row, 0), *stepped(row, rng.choice(FAR))]
    return [rng.choice(numbers) + step for step in (-1, 0, 1)] + [rng.choice(FAR)]


class Safe(unittest.TestCase):
    def test_top_and_bottom(self):
        rng = random.Random("top")
        for row in ROWS:
            for level in levels_for(row, rng):
                starts = crossing_starts(row, level)
                top, bottom = top_start(row, level), bottom_start(row, level)
                fault = stretch_fault(None if top is None else (None, top), starts,
                                      lambda start: max(stepped(row, start)) <= level)
                self.assertIsNone(fault, (row, level))
                fault = stretch_fault(None if bottom is None else (bottom, None), starts,
                                      lambda start: min(stepped(row, start)) >= level)
                self.assertIsNone(fault, (row, level))

    def test_safe_starts(self):
        rng = random.Random("safe")
        for row in ROWS:
            levels = levels_for(row, rng)
            for low, high in ((levels[0], levels[1]), (levels[1], levels[2]), (levels[0], levels[3]), (levels[2],) * 2):
                low, high = min(low, high), max(low, high)
                fault = stretch_fault(safe_starts(row, low, high), crossing_starts(row, low, high),
                                      lambda start: all(low <= level <= high for level in stepped(row, start)))
                self.assertIsNone(fault, (row, low, high))
                if low < high:
                    self.assertIsNone(safe_starts(row, high, low))

    def test_windows_in_which_starts_are_safe(self):
        rng = random.Random("windows")
        for row in ROWS:
            for start in rng.sample(crossing_starts(row), 3):
                levels = stepped(row, start)
                low, high = min(levels), max(levels)
                fault = stretch_fault(safe_starts(row, low, high), crossing_starts(row, low, high),
                                      lambda start: all(low <= level <= high for level in stepped(row, start)))
                self.assertIsNone(fault, (row, low, high))
                self.assertIsNotNone(safe_starts(row, low, high), (row, low, high))
                if low < high:
                    self.assertFalse(inside_pair(safe_starts(row, low + 1, high), start))
                    self.assertFalse(inside_pair(safe_starts(row, low, high - 1), start))

    def test_low_above_high(self):
        for row in ((), (("add", 1),), (("floor", 3), ("cap", 3)), (("cap", -HUGE), ("floor", HUGE))):
            for low, high in ((1, 0), (HUGE, -HUGE), (0, -1), (HUGE + 1, HUGE)):
                self.assertIsNone(safe_starts(row, low, high))
        self.assertEqual((safe_starts((), 3, 3), safe_starts((), -HUGE, HUGE)), ((3, 3), (-HUGE, HUGE)))
        self.assertEqual((top_start((), HUGE), bottom_start((), HUGE)), (HUGE, HUGE))


def inside_pair(stretch, start):
    return stretch is not None and stretch[0] <= start <= stretch[1]


def first_moment(moments):
    return moments[0] if moments else None


class Reached(unittest.TestCase):
    def test_moments(self):
        rng = random.Random("moments")
        for row in ROWS:
            for level in levels_for(row, rng):
                for start in rng.sample(crossing_starts(row, level), 5):
                    levels = stepped(row, start)
                    up = [moment for moment, now in enumerate(levels) if now >= level]
                    down = [moment for moment, now in enumerate(levels) if now <= level]
                    self.assertEqual(reaches(row, start, level), first_moment(up), (row, start, level))
                    self.assertEqual(falls_to(row, start, level), first_moment(down), (row, start, level))

    def test_starts(self):
        rng = random.Random("starts")
        for row in ROWS:
            for level in levels_for(row, rng):
                starts = crossing_starts(row, level)
                least, greatest = least_reaching(row, level), greatest_falling(row, level)
                fault = stretch_fault((least, None), starts, lambda start: max(stepped(row, start)) >= level)
                self.assertIsNone(fault, (row, level))
                fault = stretch_fault((None, greatest), starts, lambda start: min(stepped(row, start)) <= level)
                self.assertIsNone(fault, (row, level))

    def test_at_the_start_and_at_the_end(self):
        row = (("add", -1), ("add", HUGE))
        self.assertEqual([reaches(row, 5, level) for level in (4, 5, 6, HUGE + 4, HUGE + 5)], [0, 0, 2, 2, None])
        self.assertEqual([falls_to(row, 5, level) for level in (6, 5, 4, 3)], [0, 0, 1, None])
        self.assertEqual((reaches((), 5, 5), reaches((), 5, 6), falls_to((), 5, 5), falls_to((), 5, 4)),
                         (0, None, 0, None))
        self.assertEqual((least_reaching((), HUGE), greatest_falling((), HUGE)), (HUGE, HUGE))
        self.assertIs(type(reaches((), 5, 5)), int)

    def test_numbers_of_thirty_digits(self):
        for row in ROWS[:200]:
            for by in (HUGE, 3 * 10 ** 29 + 7):
                far, level = scaled(row, by), 2 * by
                up, down = lifted(row, 1), cut(row, 1)
                self.assertEqual((lifted(far, by), cut(far, by)), (up * by, down * by))
                for function in (top_start, bottom_start):
                    near = function(row, 2)
                    self.assertEqual(function(far, level), None if near is None else near * by, (row, by))
            risen = moved_up(row, HUGE)
            self.assertEqual(living(risen), tuple(None if bound is None else bound + HUGE for bound in living(row)))
            self.assertEqual((lifted(risen, HUGE), cut(risen, HUGE)), (lifted(row, 0), cut(row, 0)))

    def test_lists_for_tuples(self):
        row = (("add", -5), ("floor", 0), ("add", 3), ("cap", 6))
        for function in (living, lifted_line, cut_line):
            self.assertEqual(function(listed(row)), function(row))


if __name__ == "__main__":
    unittest.main()
