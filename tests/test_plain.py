"""end_of and levels_of, against levels stepped one by one."""

import unittest

from boundedlevels.plain import end_of
from boundedlevels.ways import levels_of
from reckoning import FAR, all_starts, every_row, random_rows, stepped


class Levels(unittest.TestCase):
    def check(self, row, starts):
        for start in starts:
            levels = stepped(row, start)
            self.assertEqual(levels_of(row, start), levels, (row, start))
            self.assertEqual(end_of(row, start), levels[-1], (row, start))

    def test_no_events(self):
        for start in (0, 7, -7, *FAR):
            self.assertEqual(levels_of((), start), [start])
            self.assertEqual(end_of((), start), start)

    def test_single_events(self):
        self.assertEqual(levels_of((("add", -4),), 3), [3, -1])
        for number in (-5, 0, 5):
            for start in (number - 1, number, number + 1):
                self.assertEqual(end_of((("floor", number),), start), max(start, number))
                self.assertEqual(end_of((("cap", number),), start), min(start, number))

    def test_floor_above_a_cap(self):
        self.assertEqual(levels_of((("floor", 9), ("cap", 4)), 6), [6, 9, 4])
        self.assertEqual(levels_of((("cap", 4), ("floor", 9)), 6), [6, 4, 9])

    def test_all_short_rows(self):
        for row in every_row(3, 1):
            self.check(row, range(-4, 5))

    def test_numbers_of_thirty_digits(self):
        large = 123456789012345678901234567890
        row = (("add", large), ("cap", large + 7), ("add", -2 * large), ("floor", 3 - large), ("add", 1))
        self.assertEqual(levels_of(row, 9), [9, large + 9, large + 7, 7 - large, 7 - large, 8 - large])
        self.assertEqual(end_of(row, -5), 4 - large)

    def test_rows_up_to_sixty_events(self):
        for row in random_rows("levels", 150, 60):
            self.check(row, all_starts(row))


if __name__ == "__main__":
    unittest.main()
