"""way_of, the starts for an end, and Ways beside each other."""

import itertools
import random
import unittest

from boundedlevels.errors import Unlike
from boundedlevels.ways import (Way, greatest_of, higher_start, least_of, nowhere_above, starts_between, starts_for,
                                way_of)
from reckoning import FAR, HUGE, all_starts, bound_triples, end, every_row, led_by, moved_up, random_rows

TRIPLES = bound_triples(2)
WIDE = range(-14, 15)


def parts(way):
    return (way.shift, way.floor, way.cap)


def far_triple(triple, by, up):
    """The way that does to start + by what this one does to start, and leads up more."""
    shift, floor, cap = triple
    return (None if shift is None else shift + up - by, None if floor is None else floor + up,
            None if cap is None else cap + up)


def stretch_of(starts, wide):
    """The STRETCH of these starts, found among all of a wide range; where it comes to an end of it, it goes on."""
    if not starts:
        return None
    assert starts == list(range(starts[0], starts[-1] + 1))
    return (None if starts[0] == wide[0] else starts[0], None if starts[-1] == wide[-1] else starts[-1])


def within(number, low, high):
    return (low is None or number >= low) and (high is None or number <= high)


class WayOf(unittest.TestCase):
    def test_all_short_rows(self):
        known = {}
        for row in every_row(3, 1):
            way = way_of(row)
            ends = tuple(end(row, start) for start in range(-8, 9))
            self.assertEqual([way(start) for start in range(-8, 9)], list(ends), row)
            # One Way for all that do the same, and another one for each that does not.
            self.assertEqual(known.setdefault(ends, parts(way)), parts(way), row)
        self.assertEqual(len(set(known.values())), len(known))

    def test_rows_up_to_sixty_events(self):
        for row in random_rows("way of", 250, 60) + random_rows("way of few", 250, 8):
            way = way_of(row)
            for start in all_starts(row):
                self.assertEqual(way(start), end(row, start), (row, start))

    def test_by_hand(self):
        told = {
            (): (0, None, None), (("add", 0),): (0, None, None), (("add", -7),): (-7, None, None),
            (("floor", 4),): (0, 4, None), (("cap", 4),): (0, None, 4),
            (("floor", 4), ("cap", 4)): (None, 4, 4), (("floor", 9), ("cap", 4)): (None, 4, 4),
            (("cap", 4), ("floor", 9)): (None, 9, 9), (("floor", 9), ("cap", 4), ("add", 2)): (None, 6, 6),
            (("add", 5), ("floor", 0), ("add", -5)): (0, -5, None),
            (("floor", -HUGE), ("add", HUGE), ("cap", HUGE)): (HUGE, 0, HUGE),
        }
        for row, triple in told.items():
            self.assertEqual(parts(way_of(row)), triple, row)

    def test_a_row_behind_a_row(self):
        rows = random_rows("behind", 60, 12)
        for row, other in zip(rows, reversed(rows)):
            self.assertTrue(way_of(row + other) == way_of(row) >> way_of(other))
            self.assertTrue(way_of(row * 3) == way_of(row) * 3)


class Starts(unittest.TestCase):
    def test_for_an_end(self):
        for triple in TRIPLES:
            way = Way(*triple)
            for number in range(-6, 7):
                starts = [start for start in WIDE if led_by(triple, start) == number]
                self.assertEqual(starts_for(way, number), stretch_of(starts, WIDE), (triple, number))

    def test_between(self):
        bounds = [None, *range(-4, 5)]
        for triple in TRIPLES:
            way = Way(*triple)
            for low, high in itertools.product(bounds, bounds):
                if low is None or high is None or low <= high:
                    starts = [start for start in WIDE if within(led_by(triple, start), low, high)]
                    told = starts_between(way, low, high)
                    self.assertEqual(told, stretch_of(starts, WIDE), (triple, low, high))

    def test_far_ones(self):
        for by, up in ((HUGE, HUGE), (-HUGE, 0), (0, HUGE), (HUGE, -HUGE), (12345678901234567890, 3)):
            for triple in TRIPLES:
                way = Way(*far_triple(triple, by, up))
                for number in range(-3, 4):
                    starts = [start for start in WIDE if led_by(triple, start) == number]
                    stretch = stretch_of(starts, WIDE)
                    moved = stretch and tuple(None if part is None else part + by for part in stretch)
                    self.assertEqual(starts_for(way, number + up), moved)
                    self.assertEqual(starts_between(way, number + up, number + up), moved)

    def test_far_ends(self):
        for triple in TRIPLES:
            way, (shift, floor, cap) = Way(*triple), triple
            for number in FAR:
                open_to_it = shift is not None and (floor if number < 0 else cap) is None
                told = (number - shift, number - shift) if open_to_it else None
                self.assertEqual(starts_for(way, number), told, (triple, number))
            self.assertEqual(starts_between(way, -(10 ** 40), 10 ** 40),
                             (None if floor is not None else -(10 ** 40) - shift,
                              None if cap is not None else 10 ** 40 - shift))

    def test_kinds_of_results(self):
        self.assertIs(type(starts_for(Way(2), 5)), tuple)
        self.assertEqual(starts_between(Way(2), None, None), (None, None))
        self.assertEqual(starts_between(Way(None, 3, 3), None, None), (None, None))
        self.assertEqual(starts_between(Way(None, 3, 3), 3, None), (None, None))
        self.assertEqual(starts_between(Way(None, 3, 3), None, 3), (None, None))
        self.assertIsNone(starts_between(Way(None, 3, 3), 4, None))
        self.assertIsNone(starts_between(Way(None, 3, 3), None, 2))
        self.assertIsNone(starts_for(Way(None, 3, 3), 2))


class Above(unittest.TestCase):
    def test_all_pairs(self):
        for triple, other in itertools.product(TRIPLES, TRIPLES):
            above = [start for start in WIDE if led_by(triple, start) > led_by(other, start)]
            self.check(triple, other, bool(above))

    def test_far_pairs(self):
        for triple, other in itertools.product(TRIPLES, TRIPLES):
            above = [start for start in WIDE if led_by(triple, start) > led_by(other, start)]
            self.check(far_triple(triple, HUGE, 0), far_triple(other, HUGE, 0), bool(above))
            self.check(far_triple(triple, -HUGE, 7), far_triple(other, -HUGE, 7), bool(above))

    def test_above_only_very_far_away(self):
        self.check((0, None, None), (HUGE, None, 0), True)
        self.check((-HUGE, 0, None), (0, None, None), True)
        self.check((HUGE, None, 0), (-HUGE, 0, None), False)
        self.check((0, None, None), (None, HUGE, HUGE), True)
        self.check((None, -HUGE, -HUGE), (0, None, None), True)
        self.check((HUGE, None, None), (HUGE, 5, None), False)
        self.check((HUGE, 5, None), (HUGE, None, None), True)

    def check(self, triple, other, is_above):
        one, two = Way(*triple), Way(*other)
        self.assertIs(nowhere_above(one, two), not is_above, (triple, other))
        start = higher_start(one, two)
        if is_above:
            self.assertIs(type(start), int)
            self.assertGreater(led_by(triple, start), led_by(other, start), (triple, other, start))
        else:
            self.assertIsNone(start, (triple, other))


class GreatestAndLeast(unittest.TestCase):
    def check(self, triples, starts):
        given = [Way(*triple) for triple in triples]
        greatest, least = greatest_of(tuple(given)), least_of(tuple(given))
        for start in starts:
            ends = [led_by(triple, start) for triple in triples]
            self.assertEqual(greatest(start), max(ends), (triples, start))
            self.assertEqual(least(start), min(ends), (triples, start))
        self.assertEqual(parts(greatest_of(given)), parts(greatest))
        self.assertEqual(parts(least_of(given)), parts(least))
        self.assertEqual([parts(way) for way in given], list(triples))

    def test_one(self):
        for triple in TRIPLES:
            self.assertEqual(parts(greatest_of((Way(*triple),))), triple)
            self.assertEqual(parts(least_of([Way(*triple)])), triple)

    def test_all_pairs(self):
        for triple, other in itertools.product(TRIPLES, TRIPLES):
            if triple[0] is None or other[0] is None or triple[0] == other[0]:
                self.check((triple, other), WIDE)

    def test_many_at_once(self):
        rng = random.Random("many ways")
        for reach in (3, HUGE):
            for _ in range(200):
                shift = rng.randint(-reach, reach)
                triples = []
                for _ in range(rng.randint(1, 6)):
                    low, high = sorted((rng.randint(-reach, reach), rng.randint(-reach, reach)))
                    floor, cap = rng.choice(((None, None), (low, None), (None, high), (low, high), (low, low)))
                    triples.append((None if floor is not None and floor == cap else shift, floor, cap))
                turns = [bound - shift for triple in triples for bound in triple[1:] if bound is not None]
                self.check(tuple(triples), [turn + step for turn in [0, *turns] for step in (-1, 0, 1)] + list(FAR))

    def test_constants_alone(self):
        constants = tuple((None, number, number) for number in (4, -2, 9, 0))
        self.check(constants, (*WIDE, *FAR))
        self.assertEqual(parts(greatest_of([Way(*triple) for triple in constants])), (None, 9, 9))
        self.assertEqual(parts(least_of([Way(*triple) for triple in constants])), (None, -2, -2))

    def test_unlike_shifts_in_any_order(self):
        sets = (
            (Way(0), Way(1)), (Way(2, 0, 5), Way(3, 0, 5)), (Way(1), Way(None, 5, 5), Way(2)),
            (Way(1), Way(1, 3), Way(2, 3)), (Way(None, 1, 1), Way(None, 2, 2), Way(HUGE), Way(HUGE + 1)),
            (Way(0, 0), Way(0, None, 3), Way(0, 1, 2), Way(-1, 1, 2)),
        )
        for given in sets:
            for order in itertools.permutations(given):
                for function in (greatest_of, least_of):
                    with self.assertRaises(Unlike):
                        function(order)
                    with self.assertRaises(Unlike):
                        function(list(order))

    def test_shift_and_no_shift_are_not_unlike(self):
        for order in itertools.permutations((Way(0, -5), Way(None, 5, 5), Way(None, -9, -9), Way(0, None, 7))):
            self.assertEqual(greatest_of(order).text, "0 5 -")
            self.assertEqual(least_of(order).text, "0 - -9")


class FarRows(unittest.TestCase):
    def test_rows_far_away_do_the_same(self):
        for row in random_rows("far away", 100, 10, (3, 9)):
            near = parts(way_of(row))
            for by in (HUGE, -HUGE, 10 ** 18 + 7):
                self.assertEqual(parts(way_of(moved_up(row, by))), far_triple(near, by, by))


if __name__ == "__main__":
    unittest.main()
