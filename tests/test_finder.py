"""The class Finder, against the list of all Ways that can be, and a search of the test's own."""

import functools
import itertools
import random
import unittest

from boundedlevels.errors import Gainsaid
from boundedlevels.readings import Finder
from boundedlevels.ways import Way
from reckoning import HUGE, every_bounds, led_by


def windows(widest):
    """All (low, high, first, last) with small numbers for which there is a Way, from some places."""
    for low, first in ((0, 0), (-3, 5), (4, -2)):
        for wide in range(widest + 1):
            for rise in range(wide + 1):
                yield low, low + wide, first, first + rise


def functions_of(low, high, first, last):
    """What all Ways that lead low to first and high to last do to the starts between, each once."""
    starts, found = range(low, high + 1), set()
    reach = range(min(first, last) - 2, max(first, last) + 3)
    shifts = range(first - high - 2, last - low + 3)
    for floor, cap in itertools.product([None, *reach], repeat=2):
        if floor is not None and cap is not None and floor > cap:
            continue
        constant = floor is not None and floor == cap
        for shift in [None] if constant else shifts:
            ends = tuple(led_by((shift, floor, cap), start) for start in starts)
            if ends[0] == first and ends[-1] == last:
                found.add(ends)
    return sorted(found)


def searched(functions):
    """How many asks are needed at the least to tell these functions apart, whatever is told."""
    @functools.lru_cache(maxsize=None)
    def needed(left):
        if len(left) == 1:
            return 0
        best = None
        for at in range(len(left[0])):
            parts = {}
            for ends in left:
                parts.setdefault(ends[at], []).append(ends)
            if len(parts) > 1:
                worst = 1 + max(needed(tuple(part)) for part in parts.values())
                best = worst if best is None else min(best, worst)
        return best
    return needed(tuple(functions))


class Making(unittest.TestCase):
    def test_gainsaid(self):
        for low, wide, first, rise in itertools.product((-2, 0, HUGE), range(4), (-5, 0, HUGE), range(-3, 6)):
            arguments = (low, low + wide, first, first + rise)
            with self.subTest(arguments=arguments):
                if 0 <= rise <= wide:
                    self.assertEqual(Finder(*arguments).ends(low), (first, first))
                else:
                    with self.assertRaises(Gainsaid):
                        Finder(*arguments)
        for rise in (-1, HUGE + 1, -HUGE, 2 * HUGE):
            with self.assertRaises(Gainsaid):
                Finder(-HUGE, 0, 5, 5 + rise)

    def test_by_names(self):
        finder = Finder(last=6, first=2, high=10, low=0)
        self.assertEqual((finder.many, finder.ends(start=5), finder.asks()), (7, (2, 6), 2))
        self.assertIsNone(finder.tell(end=4, start=5))
        self.assertEqual((finder.many, finder.way), (1, Way(-1, 2, 6)))

    def test_no_setters(self):
        finder = Finder(0, 10, 2, 6)
        for name in ("many", "way"):
            with self.subTest(name=name), self.assertRaises(AttributeError):
                setattr(finder, name, 1)
        self.assertEqual((finder.many, finder.way), (7, None))


class Finding(unittest.TestCase):
    def check(self, finder, functions, window):
        low, high, first, last = window
        self.assertEqual(finder.many, len(functions), window)
        for at, start in enumerate(range(low, high + 1)):
            ends = sorted({ends[at] for ends in functions})
            self.assertEqual(finder.ends(start), (ends[0], ends[-1]), (window, start))
            self.assertEqual(ends, list(range(ends[0], ends[-1] + 1)))
        if len(functions) > 1:
            self.assertIsNone(finder.way)
            return
        way = finder.way
        self.assertEqual((way.floor, way.cap), (first, last))
        self.assertEqual(tuple(way(start) for start in range(low, high + 1)), functions[0])
        self.assertIs(way.shift is None, first == last)

    def test_all_told(self):
        for window in windows(5):
            low, high, first, last = window
            functions = functions_of(*window)
            self.check(Finder(*window), functions, window)
            for start, end in itertools.product(range(low, high + 1), range(first - 1, last + 2)):
                finder = Finder(*window)
                left = [ends for ends in functions if ends[start - low] == end]
                if left:
                    self.assertIsNone(finder.tell(start, end))
                    self.check(finder, left, window)
                else:
                    with self.assertRaises(Gainsaid):
                        finder.tell(start, end)
                    self.check(finder, functions, window)

    def test_told_more_than_once(self):
        rng = random.Random("told")
        for window in windows(7):
            low, high, first, last = window
            finder, left = Finder(*window), functions_of(*window)
            for _ in range(4):
                start, end = rng.randint(low, high), rng.randint(first, last)
                fitting = [ends for ends in left if ends[start - low] == end]
                if fitting:
                    finder.tell(start, end)
                    left = fitting
                else:
                    with self.assertRaises(Gainsaid):
                        finder.tell(start, end)
                self.check(finder, left, window)

    def test_shift_that_is_told(self):
        # The Ways that do the same in the window are one, and told with the floor first and the cap last.
        for shift, (floor, cap) in itertools.product(range(-3, 4), every_bounds(3)):
            constant = floor is not None and floor == cap
            triple = (None if constant else shift, floor, cap)
            first, last = led_by(triple, -2), led_by(triple, 2)
            finder = Finder(-2, 2, first, last)
            for start in range(-2, 3):
                finder.tell(start, led_by(triple, start))
            self.assertEqual((finder.many, finder.asks(), finder.ask()), (1, 0, None))
            self.assertEqual([finder.way(start) for start in range(-2, 3)], [led_by(triple, at) for at in range(-2, 3)])
            self.assertEqual((finder.way.floor, finder.way.cap), (first, last))
            if first < last:
                self.assertEqual(finder.way.shift, shift)

    def test_one_start_and_one_end(self):
        for number in (0, -7, HUGE):
            finder = Finder(number, number, 5, 5)
            self.assertEqual((finder.many, finder.asks(), finder.ask(), finder.ends(number)), (1, 0, None, (5, 5)))
            self.assertEqual(finder.way, Way(None, 5, 5))
            with self.assertRaises(Gainsaid):
                finder.tell(number, 6)
            finder.tell(number, 5)
            self.assertEqual(finder.way, Way(None, 5, 5))
        finder = Finder(-HUGE, HUGE, 4, 4)
        self.assertEqual((finder.many, finder.asks(), finder.way, finder.ends(0)), (1, 0, Way(None, 4, 4), (4, 4)))
        self.assertEqual(Finder(0, HUGE, 3, HUGE + 3).way, Way(3, 3, HUGE + 3))


class Asking(unittest.TestCase):
    def test_asks_by_search(self):
        for window in windows(8):
            functions = functions_of(*window)
            self.assertEqual(Finder(*window).asks(), searched(functions), window)

    def test_asks_behind_what_was_told(self):
        for window in windows(6):
            low, high, first, last = window
            for start, end in itertools.product(range(low, high + 1), range(first, last + 1)):
                left = [ends for ends in functions_of(*window) if ends[start - low] == end]
                if left:
                    finder = Finder(*window)
                    finder.tell(start, end)
                    self.assertEqual(finder.asks(), searched(left), (window, start, end))

    def test_each_ask_is_one_of_the_best(self):
        for window in windows(7):
            for function in functions_of(*window):
                finder = Finder(*window)
                asked = finder.asks()
                while asked > 0:
                    start = finder.ask()
                    self.assertEqual((type(start), finder.ask()), (int, start))
                    self.assertTrue(window[0] <= start <= window[1])
                    finder.tell(start, function[start - window[0]])
                    self.assertLess(finder.asks(), asked)
                    asked = finder.asks()
                self.assertIsNone(finder.ask())
                self.assertEqual(finder.many, 1)

    def test_as_many_as_asks_can_tell_apart(self):
        for asked, rise in itertools.product(range(1, 9), (1, 2, 3, 10, 10 ** 20)):
            many = 2 ** asked * rise - (rise - 1)
            self.assertEqual(Finder(0, rise + many - 1, 7, 7 + rise).many, many)
            self.assertEqual(Finder(0, rise + many - 1, 7, 7 + rise).asks(), asked)
            self.assertEqual(Finder(0, rise + many, 7, 7 + rise).asks(), asked + 1)

    def test_great_numbers(self):
        rng = random.Random("great")
        for rise in (1, 2, 7, 10 ** 9, HUGE // 7, HUGE - 1, HUGE):
            for shift in (0, HUGE - rise, *[rng.randint(0, HUGE - rise) for _ in range(6)]):
                # From 0 to HUGE: first the starts that are lifted to 5, then the rise.
                triple = (5 - shift, 5, 5 + rise)
                finder = Finder(0, HUGE, 5, 5 + rise)
                most = finder.asks()
                self.assertEqual(finder.many, HUGE - rise + 1)
                self.assertTrue(most == 0 or finder.many > 2 ** (most - 1) * rise - (rise - 1))
                self.assertLessEqual(finder.many, 2 ** most * rise - (rise - 1))
                for _ in range(most):
                    if finder.asks():
                        start = finder.ask()
                        least, greatest = finder.ends(start)
                        self.assertTrue(least <= led_by(triple, start) <= greatest)
                        finder.tell(start, led_by(triple, start))
                self.assertEqual((finder.asks(), finder.way), (0, Way(*triple)))


if __name__ == "__main__":
    unittest.main()
