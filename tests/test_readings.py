"""What readings tell, against all pairs of a start and a ROW that go with them."""

import itertools
import random
import time
import unittest

from boundedlevels.plain import is_row
from boundedlevels.readings import (
    first_wrong, fits_guess, goes_with, going, levels_by, needless_readings, numbers_by, settled,
)
from reckoning import HUGE, inside, listed, stepped

GUESS = (("add", 1, 3), ("cap", 10, 10), ("add", -2, -2))
WORDS = ("add", "floor", "cap")


def rows_of(guess):
    """All ROWs that fit the GUESS."""
    return list(itertools.product(*[[(word, number) for number in range(low, high + 1)] for word, low, high in guess]))


def pairs_of(guess, starts, readings):
    """All pairs (start, levels, row) that go with them; STARTS have bounds."""
    pairs = []
    for row in rows_of(guess):
        for start in range(starts[0], starts[1] + 1):
            levels = stepped(row, start)
            if all(levels[moment] == level for moment, level in readings):
                pairs.append((start, tuple(levels), row))
    return pairs


def windowed(starts, wide):
    """STARTS with bounds, far enough for small numbers."""
    low, high = starts
    return (-wide if low is None else low, wide if high is None else high)


def bounds_of(numbers, wider):
    """The STRETCH of numbers that come for windowed starts, and for wider ones: what grows has no end."""
    low, high = min(numbers), max(numbers)
    return (None if min(wider) < low else low, None if max(wider) > high else high)


def drawn_guess(rng, many, reach, wide):
    guess = []
    for _ in range(many):
        low = rng.randint(-reach, reach)
        guess.append((rng.choice(WORDS), low, low + rng.randint(0, wide)))
    return tuple(guess)


def drawn_starts(rng, reach):
    low, high = sorted(rng.randint(-reach, reach) for _ in range(2))
    return rng.choice(((low, high), (low, high), (low, low), (None, high), (low, None), (None, None)))


def drawn_readings(rng, guess, starts, many):
    """READINGS of which most are those of one pair, some bent by a little or said twice."""
    row = tuple((word, rng.randint(low, high)) for word, low, high in guess)
    levels = stepped(row, rng.randint(*windowed(starts, 6)))
    readings = []
    for _ in range(many):
        moment = rng.randrange(len(levels))
        readings.append((moment, levels[moment] + rng.choice((0, 0, 0, 0, 0, 0, 1, -1))))
    return tuple(readings + rng.sample(readings, min(len(readings), rng.randint(0, 1))))


def drawn_cases(seed, count, longest=3):
    rng = random.Random(seed)
    cases = []
    for _ in range(count):
        guess, starts = drawn_guess(rng, rng.randint(0, longest), 4, 2), drawn_starts(rng, 4)
        cases.append((guess, starts, drawn_readings(rng, guess, starts, rng.randint(0, 3))))
    return cases


class Pairs(unittest.TestCase):
    def test_fits(self):
        rng = random.Random("fits")
        for _ in range(60):
            guess = drawn_guess(rng, rng.randint(0, 3), 2, 2)
            rows = rows_of(guess)
            self.assertTrue(all(fits_guess(guess, row) and fits_guess(listed(guess), listed(row)) for row in rows))
            for row in rows[:20]:
                bent = [(*row, ("add", 0)), row[:-1] if row else (("cap", 1),)]
                for at, (word, number) in enumerate(row):
                    others = [(word, guess[at][1] - 1), (word, guess[at][2] + 1), (word, HUGE)]
                    others += [(other, number) for other in WORDS if other != word]
                    bent += [(*row[:at], other, *row[at + 1:]) for other in others]
                for wrong in bent:
                    self.assertIs(fits_guess(guess, wrong), False, (guess, wrong))
        self.assertIs(fits_guess((), ()), True)

    def test_goes_with(self):
        for guess, starts, readings in drawn_cases("goes", 120):
            for row in rows_of(guess):
                for start in (*range(-10, 11), HUGE, -HUGE):
                    right = inside(starts, start) and all(
                        stepped(row, start)[moment] == level for moment, level in readings)
                    self.assertIs(goes_with(guess, starts, readings, (start, row)), right)
                    self.assertIs(goes_with(listed(guess), list(starts), listed(readings), (start, row)), right)

    def test_going(self):
        for guess, starts, readings in drawn_cases("going", 300):
            told = going(guess, starts, readings)
            pairs = pairs_of(guess, windowed(starts, 20), readings)
            self.assertIs(told is None, not pairs, (guess, starts, readings))
            if told is not None:
                start, row = told
                self.assertEqual((type(told), is_row(row)), (tuple, True))
                self.assertTrue(inside(starts, start) and row in rows_of(guess))
                self.assertTrue(all(stepped(row, start)[moment] == level for moment, level in readings))
            self.assertEqual(going(listed(guess), list(starts), listed(readings)), told)


class Told(unittest.TestCase):
    def check_levels(self, guess, starts, readings):
        near = pairs_of(guess, windowed(starts, 16), readings)
        far = pairs_of(guess, windowed(starts, 23), readings)
        told, numbers = levels_by(guess, starts, readings), numbers_by(guess, starts, readings)
        still = settled(guess, starts, readings)
        if not near:
            self.assertEqual((told, numbers, still), (None, None, None), (guess, starts, readings))
            return
        expected = [bounds_of([levels[moment] for _, levels, _ in near], [levels[moment] for _, levels, _ in far])
                    for moment in range(len(guess) + 1)]
        self.assertEqual(told, expected, (guess, starts, readings))
        for place, pair in enumerate(numbers):
            found = sorted({row[place][1] for _, _, row in near})
            self.assertEqual((pair, found), ((found[0], found[-1]), list(range(found[0], found[-1] + 1))))
        self.assertEqual(len(numbers), len(guess))
        self.assertEqual([type(part) for part in told + numbers], [tuple] * (2 * len(guess) + 1))
        self.assertEqual(still, tuple(moment for moment in range(len(guess) + 1)
                                      if len({levels[moment] for _, levels, _ in far}) == 1))

    def test_drawn(self):
        for case in drawn_cases("told", 260):
            self.check_levels(*case)

    def test_all_small_guesses(self):
        for words in itertools.product(WORDS, repeat=2):
            guess = tuple((word, low, high) for word, (low, high) in zip(words, ((-1, 1), (0, 2))))
            for starts in ((-2, 2), (0, 0), (None, 1), (-1, None), (None, None)):
                for readings in ((), ((0, 0),), ((1, 1),), ((2, 0),), ((2, 2),), ((2, -1), (0, 1)), ((1, 0), (2, 1))):
                    self.check_levels(guess, starts, readings)

    def test_levels_all_come(self):
        for guess, starts, readings in drawn_cases("all", 60):
            pairs = pairs_of(guess, windowed(starts, 12), readings)
            for moment in range(len(guess) + 1):
                found = sorted({levels[moment] for _, levels, _ in pairs})
                if found:
                    self.assertEqual(found, list(range(found[0], found[-1] + 1)))

    def test_no_events(self):
        self.assertEqual(levels_by((), (None, None), ()), [(None, None)])
        self.assertEqual((levels_by((), (0, 5), ((0, 3),)), numbers_by((), (0, 5), ())), ([(3, 3)], []))
        self.assertEqual((going((), (None, -3), ()), settled((), (2, 2), ()), settled((), (2, 3), ())),
                         ((-3, ()), (0,), ()))
        self.assertEqual((first_wrong((), (0, 5), ((0, 6),)), first_wrong((), (0, 5), ((0, 5),))), (0, None))

    def test_lists_are_new(self):
        for function in (levels_by, numbers_by):
            first = function(GUESS, (0, 20), ())
            kept = list(first)
            first.append("mine")
            self.assertEqual(function(GUESS, (0, 20), ()), kept)


class Wrong(unittest.TestCase):
    def test_needless(self):
        for guess, starts, readings in drawn_cases("needless", 250):
            window = windowed(starts, 16)
            pairs = pairs_of(guess, window, readings)
            told = needless_readings(guess, starts, readings)
            if not pairs:
                self.assertIsNone(told)
                continue
            expected = tuple(place for place in range(len(readings))
                             if pairs_of(guess, window, readings[:place] + readings[place + 1:]) == pairs)
            self.assertEqual(told, expected, (guess, starts, readings))
            self.assertIs(type(told), tuple)

    def test_needless_when_said_twice(self):
        self.assertEqual(needless_readings(GUESS, (0, 20), ((0, 3), (0, 3))), (0, 1))
        self.assertEqual(needless_readings(GUESS, (0, 20), ((0, 3), (1, 5))), ())
        self.assertEqual(needless_readings(GUESS, (0, 20), ()), ())
        self.assertEqual(needless_readings(GUESS, (3, 3), ((0, 3),)), (0,))
        self.assertIsNone(needless_readings(GUESS, (0, 20), ((0, 3), (0, 4))))

    def test_first_wrong(self):
        wrongs = set()
        for guess, starts, readings in drawn_cases("wrong", 400):
            window = windowed(starts, 16)
            gone = [moment for moment in range(len(guess) + 1)
                    if not pairs_of(guess, window, [pair for pair in readings if pair[0] <= moment])]
            told = first_wrong(guess, starts, readings)
            self.assertEqual(told, gone[0] if gone else None, (guess, starts, readings))
            wrongs.add(told)
        self.assertEqual(wrongs, {None, 0, 1, 2, 3})

    def test_order_of_readings(self):
        for guess, starts, readings in drawn_cases("shuffled", 60):
            told = [function(guess, starts, readings) for function in (levels_by, numbers_by, settled, first_wrong)]
            for others in itertools.permutations(readings):
                self.assertEqual([function(guess, starts, others) for function in
                                  (levels_by, numbers_by, settled, first_wrong)], told)

    def test_gainsaying(self):
        for readings in (((0, 1), (0, 2)), ((3, 5), (3, 4)), ((1, 2), (3, 5), (1, 3)), ((0, 25),), ((2, 11),)):
            for function in (going, levels_by, numbers_by, settled, needless_readings):
                self.assertIsNone(function(GUESS, (0, 20), readings), (function.__name__, readings))
        self.assertEqual([first_wrong(GUESS, (0, 20), readings) for readings in (
            ((3, 1), (0, 1), (0, 2)), ((0, 25),), ((0, -1), (3, 5)), ((3, 5), (3, 4)), ((2, 11),))], [0, 0, 0, 3, 2])


class AtTheBounds(unittest.TestCase):
    def drawn(self, rng, reach, wide):
        guess = drawn_guess(rng, 40, reach, wide)
        row = tuple((word, rng.randint(low, high)) for word, low, high in guess)
        start = rng.randint(-reach, reach)
        levels = stepped(row, start)
        starts = rng.choice(((None, None), (start, None), (start - wide, start + wide)))
        readings = tuple((moment, levels[moment]) for moment in [rng.randrange(41) for _ in range(40)])
        return guess, starts, readings, (start, row)

    def test_forty_triples_and_forty_readings(self):
        rng = random.Random("forty")
        began = time.monotonic()
        for reach, wide in ((3, 2), (9, 4), (HUGE // 2, HUGE // 4), (HUGE // 2, 1)):
            for few in (40, 3):
                guess, starts, readings, truth = self.drawn(rng, reach, wide)
                readings = readings[:few]
                self.assertIs(goes_with(guess, starts, readings, truth), True)
                self.assertIs(goes_with(guess, starts, readings, going(guess, starts, readings)), True)
                self.assertIsNone(first_wrong(guess, starts, readings))
                self.check_ends(guess, starts, readings, truth)
        self.assertLess(time.monotonic() - began, 20)

    def check_ends(self, guess, starts, readings, truth):
        """Just up to the ends some pair goes with one more reading, or with a number that is known."""
        told, levels = levels_by(guess, starts, readings), stepped(truth[1], truth[0])
        for moment, stretch in enumerate(told):
            self.assertTrue(inside(stretch, levels[moment]))
            for end, beyond in ((stretch[0], -1), (stretch[1], 1)):
                if end is not None:
                    pair = going(guess, starts, (*readings, (moment, end)))
                    self.assertEqual(stepped(pair[1], pair[0])[moment], end)
                    self.assertIs(goes_with(guess, starts, readings, pair), True)
                    self.assertIsNone(going(guess, starts, (*readings, (moment, end + beyond))))
        for place, (low, high) in enumerate(numbers_by(guess, starts, readings)):
            word, least, greatest = guess[place]
            for number in {low, high, low - 1, high + 1}:
                if least <= number <= greatest:
                    known = (*guess[:place], (word, number, number), *guess[place + 1:])
                    pair = going(known, starts, readings)
                    self.assertIs(pair is not None, low <= number <= high)
        self.assertEqual(settled(guess, starts, readings),
                         tuple(moment for moment, (low, high) in enumerate(told) if low is not None and low == high))

    def test_numbers_of_thirty_digits(self):
        by = 10 ** 29
        for guess, starts, readings in drawn_cases("scaled", 120):
            great = tuple((word, low * by, high * by) for word, low, high in guess)
            ends = tuple(bound if bound is None else bound * by for bound in starts)
            more = tuple((moment, level * by) for moment, level in readings)
            told = levels_by(guess, starts, readings)
            self.assertEqual(levels_by(great, ends, more), told and [
                tuple(bound if bound is None else bound * by for bound in pair) for pair in told])
            told = numbers_by(guess, starts, readings)
            self.assertEqual(numbers_by(great, ends, more), told and [(low * by, high * by) for low, high in told])
            for function in (settled, needless_readings, first_wrong):
                self.assertEqual(function(great, ends, more), function(guess, starts, readings))


if __name__ == "__main__":
    unittest.main()
