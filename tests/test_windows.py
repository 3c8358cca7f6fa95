"""ROWs within a window of starts, against levels stepped one by one."""

import random
import unittest

from boundedlevels.errors import LevelError, NoStarts
from boundedlevels.leasts import alike_within, fewest_within, least_within, parting_within
from boundedlevels.plain import is_row
from reckoning import FAR, HUGE, end, every_row, moved_up, random_row, random_rows, turning_starts

# In windows of starts from -3 to 3, ROWs of at most three EVENTs to 2 end from -9 to 9.
NEAR = range(-3, 4)
WINDOWS = [(low, high) for low in NEAR for high in NEAR if low <= high]


def starts_within(low, high, *rows):
    """Starts of the window, near its ends and near all that turns."""
    tried = {low, low + 1, high - 1, high, (low + high) // 2, *turning_starts(*rows), *FAR}
    return sorted(start for start in tried if low <= start <= high)


def windows_for(rng, *rows):
    """Windows from one turn of the ROWs to another, of one start, and far ones."""
    turns = turning_starts(*rows)
    windows = [tuple(sorted((rng.choice(turns), rng.choice(turns)))) for _ in range(6)]
    windows += [(start, start) for start in (rng.choice(turns), 0, HUGE, -HUGE)]
    return windows + [(-HUGE, HUGE), (turns[0] - HUGE, turns[0]), (turns[-1], turns[-1] + HUGE), (HUGE, 2 * HUGE)]


def fewest_by_the_document(row, low, high, starts):
    """How many EVENTs are needed as the document reckons it, by trying these starts of the window."""
    ends = {start: end(row, start) for start in starts}
    least, greatest = min(ends.values()), max(ends.values())
    if least < greatest:
        last_least = max(start for start in starts if ends[start] == least)
        floor = sum(found == least for found in ends.values()) >= 2
        cap = sum(found == greatest for found in ends.values()) >= 2
        return floor + cap + (last_least != least)
    if low == high == least:
        return 0
    return 1 if least >= high or least <= low else 2


class Within(unittest.TestCase):
    def check(self, row, other, low, high):
        starts = starts_within(low, high, row, other)
        same = all(end(row, start) == end(other, start) for start in starts)
        self.assertIs(alike_within(row, other, low, high), same, (row, other, low, high))
        start = parting_within(row, other, low, high)
        if same:
            self.assertIsNone(start, (row, other, low, high))
        else:
            self.assertIs(type(start), int)
            self.assertTrue(low <= start <= high, (row, other, low, high, start))
            self.assertNotEqual(end(row, start), end(other, start), (row, other, low, high, start))
        return same

    def test_short_rows_in_all_small_windows(self):
        rng = random.Random("windows")
        rows = [row for row in every_row(3, 2)]
        count = 0
        for _ in range(500):
            row, other = rng.choice(rows), rng.choice(rows)
            by = rng.choice((0, HUGE, -HUGE))
            for low, high in WINDOWS:
                count += self.check(moved_up(row, by), moved_up(other, by), low + by, high + by)
        self.assertGreater(count, 500)

    def test_rows_that_part_a_little(self):
        rng = random.Random("part a little")
        for longest in (4, 60):
            for row in random_rows(f"windows {longest}", 100, longest):
                place = rng.randint(0, len(row))
                others = (row[:place] + random_row(rng, 1, 3) + row[place:], row[:place] + row[place + 1:])
                for other in others:
                    for low, high in windows_for(rng, row, other):
                        self.check(row, other, low, high)

    def test_starts_outside_do_not_count(self):
        row, other = (("floor", 0), ("cap", 10)), ()
        self.assertIs(alike_within(row, other, 0, 10), True)
        for low, high, start in ((-1, 10, -1), (0, 11, 11), (-1, 0, -1), (10, 11, 11)):
            self.assertIs(alike_within(row, other, low, high), False)
            self.assertEqual(parting_within(row, other, low, high), start)
        for low, high in ((-9, -1), (11, 11), (HUGE, HUGE), (-HUGE, HUGE)):
            self.assertIs(alike_within(row, other, low, high), False)
        # They part in the middle alone, far from both ends of the window.
        row, other = (("cap", 0), ("floor", 0)), (("floor", 0), ("cap", 1), ("add", -1), ("floor", 0))
        self.assertIs(alike_within(row, other, -HUGE, HUGE), True)
        row, other = (("add", -1), ("floor", 0), ("cap", 1)), (("floor", 0), ("cap", 1))
        self.assertEqual(parting_within(row, other, -HUGE, HUGE), 1)


class Least(unittest.TestCase):
    def check(self, row, low, high):
        starts = starts_within(low, high, row)
        least = least_within(row, low, high)
        self.assertIs(is_row(least), True, (row, low, high, least))
        for start in sorted({*starts, *starts_within(low, high, least)}):
            self.assertEqual(end(least, start), end(row, start), (row, low, high, least, start))
        many = fewest_by_the_document(row, low, high, starts)
        self.assertEqual(len(least), many, (row, low, high, least))
        self.assertEqual(fewest_within(row, low, high), many, (row, low, high))

    def test_no_row_of_fewer_events_does(self):
        fewest = {}
        for row in [*every_row(1, 20), *every_row(2, 9)]:
            ends = [end(row, start) for start in NEAR]
            for low, high in WINDOWS:
                key = (low, tuple(ends[low + 3:high + 4]))
                fewest[key] = min(len(row), fewest.get(key, 3))
        for row in every_row(3, 2):
            ends = [end(row, start) for start in NEAR]
            for low, high in WINDOWS:
                least = least_within(row, low, high)
                self.assertEqual([end(least, start) for start in range(low, high + 1)], ends[low + 3:high + 4],
                                 (row, low, high, least))
                many = fewest.get((low, tuple(ends[low + 3:high + 4])), 3)
                self.assertEqual(len(least), many, (row, low, high, least))
                self.assertEqual(fewest_within(row, low, high), many, (row, low, high))

    def test_all_windows_of_short_rows(self):
        rng = random.Random("least windows")
        rows = [row for row in every_row(3, 2)]
        for _ in range(400):
            row, by = rng.choice(rows), rng.choice((0, HUGE, -HUGE))
            for low, high in WINDOWS:
                self.check(moved_up(row, by), low + by, high + by)

    def test_rows_up_to_sixty_events(self):
        rng = random.Random("least long")
        for longest in (4, 60):
            for row in random_rows(f"least {longest}", 150, longest):
                for low, high in windows_for(rng, row):
                    self.check(row, low, high)

    def test_one_start(self):
        self.assertEqual(least_within((("add", 3), ("add", -3)), 5, 5), ())
        self.assertEqual(least_within((("floor", 3), ("cap", 3)), 3, 3), ())
        for start in (*NEAR, *FAR):
            for row in ((("add", 1),), (("add", -1),), (("floor", 0),), (("cap", 0),), (("floor", 1), ("cap", 1))):
                many = 0 if end(row, start) == start else 1
                self.assertEqual(fewest_within(row, start, start), many)
                self.assertEqual(end(least_within(row, start, start), start), end(row, start))

    def test_one_level(self):
        row = (("floor", 3), ("cap", 3))
        told = {(3, 3): 0, (1, 2): 1, (1, 3): 1, (3, 5): 1, (4, 5): 1, (2, 4): 2, (-HUGE, HUGE): 2, (-HUGE, 3): 1,
                (3, HUGE): 1, (2, 3): 1, (3, 4): 1}
        for (low, high), many in told.items():
            self.assertEqual(fewest_within(row, low, high), many, (low, high))
            self.check(row, low, high)


class NoStartsThere(unittest.TestCase):
    FUNCTIONS = (
        lambda row, low, high: alike_within(row, (), low, high),
        lambda row, low, high: parting_within(row, (), low, high),
        least_within, fewest_within,
    )

    def test_both_numbers_are_told(self):
        for function in self.FUNCTIONS:
            for low, high in ((1, 0), (0, -1), (HUGE, -HUGE), (HUGE, HUGE - 1), (-4, -5)):
                with self.assertRaises(NoStarts) as caught:
                    function((("add", 1),), low, high)
                self.assertEqual((caught.exception.low, caught.exception.high), (low, high))

    def test_ahead_of_all_else(self):
        # Nothing is asked of the ROWs ahead of the window.
        for function in self.FUNCTIONS:
            with self.assertRaises(NoStarts):
                function(None, 1, 0)
        for function in (alike_within, parting_within):
            with self.assertRaises(NoStarts):
                function(None, None, 1, 0)
            with self.assertRaises(NoStarts):
                function((), (), 1, 0)

    def test_one_start_is_a_window(self):
        for function in self.FUNCTIONS:
            try:
                function((("add", 1),), 4, 4)
            except LevelError as error:
                self.fail(repr(error))


if __name__ == "__main__":
    unittest.main()
