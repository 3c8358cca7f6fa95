"""Streams that are woven, against all WEAVINGs one by one."""

import itertools
import math
import random
import unittest

from boundedlevels.plain import is_row
from boundedlevels.ways import Way
from boundedlevels.woven import (
    ends_woven, highest_weaving, highest_woven, is_weaving, is_woven_parting, lowest_weaving, lowest_woven, many_quiet,
    quiet_weaving, weaving_to, woven_parting, woven_row,
)
from reckoning import FAR, HUGE, end, listed, random_row, scaled, stepped, turning_starts

SHOP = ((("add", 5), ("cap", 6)), (("floor", 0), ("add", -4)))


def weavings_of(streams):
    """All WEAVINGs, ascending."""
    def woven(left):
        if not any(left):
            return [()]
        found = []
        for number, many in enumerate(left):
            if many:
                rest = (*left[:number], many - 1, *left[number + 1:])
                found += [(number, *weaving) for weaving in woven(rest)]
        return found
    return woven(tuple(len(row) for row in streams))


def row_of(streams, weaving):
    left = [iter(row) for row in streams]
    return tuple(tuple(next(left[number])) for number in weaving)


def quiet(row, start):
    levels = stepped(row, start)
    return all(word == "add" or ahead == behind for (word, _), ahead, behind in zip(row, levels, levels[1:]))


def drawn_streams(seed, count):
    """STREAMS of one, two and three ROWs, empty ones among them, that have not too many WEAVINGs."""
    rng = random.Random(seed)
    sizes = [(0,), (5,), (0, 0), (0, 4), (4, 0), (1, 1), (3, 3), (5, 2), (2, 4), (0, 0, 0), (1, 0, 2), (0, 3, 2),
             (1, 1, 1), (2, 2, 2), (3, 1, 2), (1, 2, 3), (3, 2, 2)]
    return [tuple(random_row(rng, many, reach) for many in rng.choice(sizes))
            for reach in (2, 6, HUGE) for _ in range(count)]


def starts_for(rng, rows):
    """Starts near to which something turns, and far ones."""
    turns = sorted({start for row in rng.sample(rows, min(6, len(rows))) for start in turning_starts(row)})
    return sorted({*rng.sample(turns, min(30, len(turns))), *turns[:3], *turns[-3:], *FAR})


class Weavings(unittest.TestCase):
    def test_is_weaving(self):
        for streams in (SHOP, ((),), ((("add", 1),),), ((), (("add", 1),) * 2, ()), ((("add", 1),),) * 3):
            sizes = [len(row) for row in streams]
            for length in range(sum(sizes) + 2):
                for thing in itertools.product(range(-1, 4), repeat=length):
                    right = length == sum(sizes) and all(thing.count(at) == many for at, many in enumerate(sizes))
                    self.assertIs(is_weaving(streams, thing), right, (streams, thing))
                    self.assertIs(is_weaving(listed(streams), thing), right)
                    self.assertIs(is_weaving(streams, list(thing)), False)

    def test_woven_row(self):
        for streams in (SHOP, *drawn_streams("rows", 10)):
            for weaving in weavings_of(streams)[:80]:
                row = row_of(streams, weaving)
                self.assertEqual(woven_row(streams, weaving), row)
                told = woven_row(listed(streams), list(weaving))
                self.assertEqual(told, row)
                self.assertIs(is_row(told), True)
        self.assertEqual((woven_row(((),), ()), woven_row(((), (), ()), ())), ((), ()))

    def test_thirty_six_events(self):
        rng = random.Random("thirty-six")
        streams = tuple(random_row(rng, 12, HUGE) for _ in range(3))
        weaving = [0, 1, 2] * 12
        rng.shuffle(weaving)
        self.assertIs(is_weaving(streams, tuple(weaving)), True)
        self.assertEqual(woven_row(streams, weaving), row_of(streams, weaving))
        for wrong in (weaving[:-1], weaving + [0], [0] * 36, [1 - weaving[0], *weaving[1:]]):
            self.assertIs(is_weaving(streams, tuple(wrong)), False)


class Extremes(unittest.TestCase):
    def check(self, streams, rng):
        weavings = weavings_of(streams)
        rows = sorted({row_of(streams, weaving) for weaving in weavings})
        highest, lowest = highest_woven(streams), lowest_woven(streams)
        parts = False
        starts = starts_for(rng, rows)
        for start in starts:
            ends = [end(row, start) for row in rows]
            self.assertEqual((lowest(start), highest(start)), (min(ends), max(ends)), (streams, start))
            parts = parts or min(ends) != max(ends)
        for start in rng.sample(starts, 4):
            for function, way in ((lowest_weaving, lowest), (highest_weaving, highest)):
                weaving = function(streams, start)
                self.assertIn(weaving, weavings)
                self.assertEqual(end(row_of(streams, weaving), start), way(start), (streams, start))
        self.check_parting(streams, weavings, parts)

    def check_parting(self, streams, weavings, parts):
        told = woven_parting(streams)
        if told is None:
            self.assertIs(parts, False, streams)
            return
        start, one, other = told
        self.assertEqual((type(told), type(start), one in weavings, other in weavings), (tuple, int, True, True))
        self.assertNotEqual(end(row_of(streams, one), start), end(row_of(streams, other), start))
        self.assertIs(is_woven_parting(streams, told), True)

    def test_all_weavings_of_drawn_streams(self):
        rng = random.Random("extremes")
        for streams in (SHOP, *drawn_streams("extremes", 60)):
            self.check(streams, rng)

    def test_streams_that_are_alike_in_all_weavings(self):
        for streams in (((),), ((), ()), ((), (), ()), (random_row(random.Random(1), 36, 9),),
                        ((("add", 1),), (("add", -HUGE),) * 3), ((("floor", 3),), (("floor", HUGE),)),
                        ((("cap", 3),), (("cap", HUGE),), (("cap", 4),)), ((("add", 0),), (("cap", 3), ("floor", 9))),
                        ((("floor", 0),), (("cap", 5),)), ((("floor", 0), ("cap", 5)), (("cap", 5), ("floor", 0)))):
            self.assertIsNone(woven_parting(streams), streams)
            self.assertEqual(highest_woven(streams), lowest_woven(streams))
        for streams in (((("floor", 5),), (("cap", 0),)), ((("add", 1),), (("cap", HUGE),)),
                        ((("add", -1),), (("floor", -HUGE),)),
                        ((("floor", 0), ("add", -5), ("add", 5)), (("cap", 3),))):
            self.check_parting(streams, weavings_of(streams), True)
            self.assertIsNotNone(woven_parting(streams))

    def numbers(self, streams, start):
        """The least and the greatest end, by the least and the greatest level at each stage."""
        reached = {}
        for stage in itertools.product(*[range(len(row) + 1) for row in streams]):
            low, high = ([start], [start]) if not any(stage) else ([], [])
            for number, many in enumerate(stage):
                if many:
                    ahead = reached[(*stage[:number], many - 1, *stage[number + 1:])]
                    low.append(end((streams[number][many - 1],), ahead[0]))
                    high.append(end((streams[number][many - 1],), ahead[1]))
            reached[stage] = (min(low), max(high))
        return reached[tuple(len(row) for row in streams)]

    def test_greatest_bounds(self):
        rng = random.Random("greatest")
        for sizes in ((12, 12, 12), (18, 18), (36,), (0, 20, 16), (34, 1, 1)):
            for reach in (4, HUGE):
                streams = tuple(random_row(rng, many, reach) for many in sizes)
                highest, lowest = highest_woven(streams), lowest_woven(streams)
                row = row_of(streams, [number for number, many in enumerate(sizes) for _ in range(many)])
                for start in (*rng.sample(turning_starts(row), 3), rng.choice(FAR)):
                    told = self.numbers(streams, start)
                    self.assertEqual((lowest(start), highest(start)), told, (streams, start))
                    for function, level in ((lowest_weaving, told[0]), (highest_weaving, told[1])):
                        weaving = function(streams, start)
                        self.assertEqual(sorted(weaving), sorted(row_numbers(sizes)))
                        self.assertEqual(end(row_of(streams, weaving), start), level)
                parting = woven_parting(streams)
                self.assertIs(parting is None, highest == lowest)
                self.assertIs(is_woven_parting(streams, parting), parting is not None)

    def test_kinds(self):
        self.assertIs(type(highest_woven(SHOP)), Way)
        self.assertIs(type(highest_weaving(listed(SHOP), 3)), tuple)
        self.assertEqual((highest_weaving(((),), 3), lowest_weaving(((), ()), HUGE)), ((), ()))
        self.assertEqual(highest_woven(((), ())).text, "0 - -")


def row_numbers(sizes):
    return [number for number, many in enumerate(sizes) for _ in range(many)]


class Ends(unittest.TestCase):
    def check(self, streams, start):
        counts = {}
        weavings = weavings_of(streams)
        for weaving in weavings:
            level = end(row_of(streams, weaving), start)
            counts[level] = counts.get(level, 0) + 1
        told = ends_woven(streams, start)
        self.assertEqual(told, sorted(counts.items()), (streams, start))
        self.assertEqual([type(told), {type(pair) for pair in told}], [list, {tuple}])
        for level in sorted({*counts, *[level + step for level in counts for step in (-1, 1)], HUGE})[:30]:
            weaving = weaving_to(streams, start, level)
            if level in counts:
                self.assertIn(weaving, weavings)
                self.assertEqual(end(row_of(streams, weaving), start), level, (streams, start))
            else:
                self.assertIsNone(weaving, (streams, start, level))
        quiets = [weaving for weaving in weavings if quiet(row_of(streams, weaving), start)]
        self.assertEqual(many_quiet(streams, start), len(quiets), (streams, start))
        self.assertEqual(quiet_weaving(streams, start), quiets[0] if quiets else None, (streams, start))
        return len(quiets)

    def test_all_weavings_of_drawn_streams(self):
        rng = random.Random("ends")
        found = 0
        for streams in (SHOP, *drawn_streams("ends", 40)):
            row = row_of(streams, weavings_of(streams)[0])
            for start in (*rng.sample(turning_starts(row), 5), rng.choice(FAR)):
                found += self.check(streams, start)
        self.assertGreater(found, 1000)

    def test_quiet_streams(self):
        rng = random.Random("quiet")
        for _ in range(60):
            # Bounds far enough that some WEAVINGs are quiet and others are not.
            streams = tuple(tuple(rng.choice((("add", rng.randint(-4, 4)), ("floor", rng.randint(-6, 0)),
                                              ("cap", rng.randint(0, 6)))) for _ in range(rng.randint(0, 3)))
                            for _ in range(rng.randint(1, 3)))
            for start in (-1, 0, 2):
                self.check(streams, start)
                self.assertEqual(many_quiet([scaled(row, HUGE) for row in streams], start * HUGE),
                                 many_quiet(streams, start))

    def test_an_add_of_nothing_and_bounds_just_met_are_quiet(self):
        streams = ((("floor", 3), ("add", 0)), (("cap", 3),))
        self.assertEqual((many_quiet(streams, 3), many_quiet(streams, 2), many_quiet(streams, 4)), (3, 0, 0))
        self.assertEqual((quiet_weaving(streams, 3), quiet_weaving(streams, 2)), ((0, 0, 1), None))
        self.assertEqual((many_quiet(((), ()), 5), quiet_weaving(((), ()), 5)), (1, ()))
        self.assertEqual((ends_woven(((),), HUGE), weaving_to(((),), 5, 5), weaving_to(((),), 5, 6)),
                         ([(HUGE, 1)], (), None))

    def test_greatest_bounds(self):
        rng = random.Random("twenty-four")
        for sizes in ((8, 8, 8), (12, 12), (24,), (0, 14, 10), (22, 1, 1)):
            many = math.factorial(24)
            for size in sizes:
                many //= math.factorial(size)
            for reach in (3, 50, HUGE):
                streams = tuple(random_row(rng, size, reach) for size in sizes)
                start = rng.randint(-reach, reach)
                told = ends_woven(streams, start)
                self.assertEqual([pair[0] for pair in told], sorted({pair[0] for pair in told}))
                self.assertEqual(sum(pair[1] for pair in told), many)
                self.assertEqual(told[0][0], lowest_woven(streams)(start))
                self.assertEqual(told[-1][0], highest_woven(streams)(start))
                levels = {level for level, _ in told}
                for level in (told[0][0], told[-1][0], told[len(told) // 2][0]):
                    weaving = weaving_to(streams, start, level)
                    self.assertEqual(sorted(weaving), row_numbers(sizes))
                    self.assertEqual(end(row_of(streams, weaving), start), level)
                self.assertIsNone(weaving_to(streams, start, told[-1][0] + 1))
                for _ in range(30):
                    weaving = row_numbers(sizes)
                    rng.shuffle(weaving)
                    self.assertIn(end(row_of(streams, weaving), start), levels)
            adds = tuple((("add", 1),) * size for size in sizes)
            self.assertEqual((many_quiet(adds, HUGE), quiet_weaving(adds, HUGE)), (many, tuple(row_numbers(sizes))))
            self.assertEqual(ends_woven(adds, HUGE), [(HUGE + 24, many)])

    def test_many_unlike_ends(self):
        # What the other streams add ahead of the cap is cut: each number of their EVENTs makes an end of its own.
        streams = ((("cap", 0),) + (("add", 1),) * 7, (("add", HUGE),) * 8, (("add", -9),) * 8)
        counts = {}
        for one, other in itertools.product(range(9), repeat=2):
            behind = math.factorial(7 + 8 - one + 8 - other) // (
                math.factorial(7) * math.factorial(8 - one) * math.factorial(8 - other))
            counts[7 + (8 - one) * HUGE - (8 - other) * 9] = math.comb(one + other, one) * behind
        self.assertEqual(len(counts), 81)
        self.assertEqual(ends_woven(streams, 10 ** 40), sorted(counts.items()))
        for level in counts:
            weaving = weaving_to(streams, 10 ** 40, level)
            self.assertEqual(sorted(weaving), row_numbers((8, 8, 8)))
            self.assertEqual(end(row_of(streams, weaving), 10 ** 40), level)

    def test_least_quiet_weaving_at_the_bounds(self):
        # Only after all of the last stream nothing of the first one is cut.
        streams = ((("cap", 8 - HUGE), ("add", 1)) * 4, (("add", -HUGE),) * 8, (("add", 1),) * 8)
        told = quiet_weaving(streams, 0)
        self.assertIs(quiet(row_of(streams, told), 0), True)
        self.assertEqual(told[0], 1)
        self.assertEqual(told, (1, *[0] * 8, *[1] * 7, *[2] * 8))


class Partings(unittest.TestCase):
    def test_all_triples(self):
        weavings = weavings_of(SHOP)
        tuples = [*itertools.product((0, 1), repeat=4)]
        for start in (-9, -4, 0, 1, 2, 4, 9, HUGE, -HUGE):
            for one in tuples:
                for other in tuples:
                    right = (one in weavings and other in weavings
                             and end(row_of(SHOP, one), start) != end(row_of(SHOP, other), start))
                    self.assertIs(is_woven_parting(SHOP, (start, one, other)), right)


if __name__ == "__main__":
    unittest.main()
