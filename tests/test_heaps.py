"""Heaps of EVENTs and additions that are held, against all ORDERs one by one."""

import collections
import functools
import itertools
import math
import random
import time
import unittest

from boundedlevels.heaps import (
    ends_heap, heap_row, highest_heap, highest_held, highest_order, is_order, lowest_heap, lowest_held, lowest_order,
    quiet_order, quiet_orders,
)
from boundedlevels.plain import is_row
from boundedlevels.ways import Way
from reckoning import FAR, HUGE, end, listed, random_row, scaled, stepped, turning_starts

HEAP = (("add", 3), ("add", -2), ("floor", 1), ("cap", 2))


def in_order(things, order):
    return tuple(things[place] for place in order)


def orders_of(many):
    """All ORDERs, ascending."""
    return list(itertools.permutations(range(many)))


def quiet(row, start):
    levels = stepped(row, start)
    return all(word == "add" or ahead == behind for (word, _), ahead, behind in zip(row, levels, levels[1:]))


def drawn_heaps(seed, count, longest):
    rng = random.Random(seed)
    heaps = [(), (("add", 0),), (("floor", 2), ("cap", -2)), (("cap", 0), ("cap", 0), ("add", 0), ("floor", 0))]
    for reach in (2, 6, HUGE):
        heaps += [random_row(rng, rng.randint(1, longest), reach) for _ in range(count)]
    for words in (("add",), ("floor", "cap"), ("add", "cap"), ("add", "floor")):
        heaps += [random_row(rng, longest, reach, words) for reach in (3, HUGE)]
    return heaps


def starts_for(rng, rows, *ways):
    """Starts near to which something turns in one of the ROWs or Ways, and far ones."""
    turns = sorted({start for row in rng.sample(rows, min(8, len(rows))) for start in turning_starts(row)})
    for way in ways:
        turns += [bound - (way.shift or 0) + step for bound in (way.floor, way.cap) if bound is not None
                  for step in (-1, 0, 1)]
    return sorted({*rng.sample(turns, min(25, len(turns))), *turns[:3], *turns[-6:], *FAR})


class Orders(unittest.TestCase):
    def test_is_order(self):
        for many in range(5):
            for length in range(many + 2):
                for thing in itertools.product(range(-1, many + 1), repeat=length):
                    self.assertIs(is_order(many, thing), sorted(thing) == list(range(many)), (many, thing))
                    self.assertIs(is_order(many, list(thing)), False)

    def test_is_order_of_very_many(self):
        for many in (61, 1000):
            order = tuple(random.Random("many").sample(range(many), many))
            self.assertIs(is_order(many, order), True)
            self.assertIs(is_order(many, order[::-1]), True)
            for wrong in (order[:-1], (*order, many), (*order[:-1], order[0]), (*order[:-1], many)):
                self.assertIs(is_order(many, wrong), False)
                self.assertIs(is_order(HUGE, wrong), False)
        for thing in ((), (0,), (HUGE - 1,), (0, 1, 2)):
            self.assertIs(is_order(HUGE, thing), False)

    def test_heap_row(self):
        for order in orders_of(4):
            told = heap_row(HEAP, order)
            self.assertEqual(told, in_order(HEAP, order))
            self.assertIs(is_row(heap_row(listed(HEAP), list(order))), True)
            self.assertEqual(heap_row(listed(HEAP), list(order)), told)
        self.assertEqual(heap_row((), ()), ())
        heap = random_row(random.Random("heap"), 60, HUGE)
        order = random.Random("sixty").sample(range(60), 60)
        self.assertEqual(heap_row(heap, order), in_order(heap, order))


class Extremes(unittest.TestCase):
    def check(self, heap, rng):
        rows = sorted({in_order(heap, order) for order in orders_of(len(heap))})
        highest, lowest = highest_heap(heap), lowest_heap(heap)
        highest_row = in_order(heap, highest_order(heap))
        lowest_row = in_order(heap, lowest_order(heap))
        self.assertEqual((sorted(highest_order(heap)), sorted(lowest_order(heap))), ([*range(len(heap))],) * 2)
        for start in starts_for(rng, rows, highest, lowest):
            ends = [end(row, start) for row in rows]
            self.assertEqual((lowest(start), highest(start)), (min(ends), max(ends)), (heap, start))
            self.assertEqual((end(lowest_row, start), end(highest_row, start)), (min(ends), max(ends)), (heap, start))

    def test_drawn_heaps(self):
        rng = random.Random("extremes")
        for heap in drawn_heaps("extremes", 25, 5):
            self.check(heap, rng)

    def test_six_events(self):
        rng = random.Random("six")
        for reach in (3, HUGE):
            for _ in range(3):
                self.check(random_row(rng, 6, reach), rng)

    def test_sixty_events(self):
        # No ORDER among many ends beyond; the one that is told ends just there, for all starts.
        rng = random.Random("sixty")
        for reach in (3, 9, HUGE, HUGE):
            heap = random_row(rng, 60, reach)
            highest, lowest = highest_heap(heap), lowest_heap(heap)
            rows = [in_order(heap, order) for order in (highest_order(heap), lowest_order(heap))]
            starts = starts_for(rng, rows, highest, lowest)
            for start in starts:
                self.assertEqual((end(rows[0], start), end(rows[1], start)), (highest(start), lowest(start)))
            for _ in range(200):
                row, start = in_order(heap, rng.sample(range(60), 60)), rng.choice(starts)
                self.assertTrue(lowest(start) <= end(row, start) <= highest(start))

    def test_kinds_of_ways(self):
        self.assertEqual((highest_heap(()), lowest_heap(()), highest_order(()), lowest_order(())),
                         (Way(0), Way(0), (), ()))
        self.assertEqual((highest_heap((("add", HUGE),) * 60), lowest_heap((("add", -HUGE),) * 60)),
                         (Way(60 * HUGE), Way(-60 * HUGE)))
        crossed = (("floor", 5), ("cap", -5), ("add", HUGE))
        self.assertEqual((highest_heap(crossed), lowest_heap(crossed)),
                         (Way(None, 5 + HUGE, 5 + HUGE), Way(None, -5, -5)))


class Ends(unittest.TestCase):
    def check(self, heap, starts):
        rows = [in_order(heap, order) for order in orders_of(len(heap))]
        for start in starts:
            counts = collections.Counter(end(row, start) for row in rows)
            told = ends_heap(heap, start)
            self.assertEqual(told, sorted(counts.items()), (heap, start))
            self.assertTrue(all(type(pair) is tuple for pair in told))

    def test_drawn_heaps(self):
        rng = random.Random("ends")
        for heap in drawn_heaps("ends", 20, 5):
            self.check(heap, rng.sample(turning_starts(heap), 3) + [0, HUGE, -HUGE])

    def test_seven_events(self):
        rng = random.Random("seven")
        for reach in (2, HUGE):
            heap = random_row(rng, 7, reach)
            self.check(heap, (0, reach, -10 ** 40))
        self.assertEqual(ends_heap((("add", 1),) * 7, -7), [(0, math.factorial(7))])

    def test_many_ends(self):
        heap = tuple(("add", 10 ** k) for k in range(5)) + (("floor", 0), ("cap", 10 ** 5))
        self.check(heap, (-11111, 0, 99990, 10 ** 6))


class Quiet(unittest.TestCase):
    def check(self, heap, starts):
        orders = orders_of(len(heap))
        for start in starts:
            found = [order for order in orders if quiet(in_order(heap, order), start)]
            self.assertEqual(quiet_orders(heap, start), len(found), (heap, start))
            self.assertEqual(quiet_order(heap, start), found[0] if found else None, (heap, start))

    def test_drawn_heaps(self):
        rng = random.Random("quiet")
        for heap in drawn_heaps("quiet", 20, 5):
            self.check(heap, rng.sample(turning_starts(heap), 4) + [0, HUGE, -10 ** 40])

    def test_heaps_with_quiet_orders(self):
        rng = random.Random("kept")
        for reach in (2, 5, HUGE):
            for _ in range(20):
                adds = random_row(rng, rng.randint(1, 4), reach, ("add",))
                heap = [*adds, *[(rng.choice(("floor", "cap")), rng.randint(-2 * reach, 2 * reach)) for _ in range(2)]]
                rng.shuffle(heap)
                self.check(tuple(heap), [0, 1, -1, reach, -reach])

    def test_none_and_all(self):
        self.assertEqual((quiet_orders((), 3), quiet_order((), 3)), (1, ()))
        self.assertEqual((quiet_orders((("cap", 3),), 3), quiet_order((("cap", 3),), 3)), (1, (0,)))
        self.assertEqual((quiet_orders((("cap", 3),), 4), quiet_order((("cap", 3),), 4)), (0, None))

    def counted(self, heap, start):
        """How many ORDERs are quiet, by the places that are left."""
        @functools.lru_cache(maxsize=None)
        def count(left):
            level = start + sum(number for place, (word, number) in enumerate(heap)
                                if word == "add" and place not in left)
            return sum(count(tuple(other for other in left if other != place)) for place in left
                       if quiet((heap[place],), level)) if left else 1
        return count(tuple(range(len(heap))))

    def test_twelve_events(self):
        rng = random.Random("twelve")
        bounds = (("floor", 0), ("cap", 6), ("floor", 3), ("cap", 3))
        heaps = [(("add", 1),) * 12, (("add", 1),) * 6 + bounds + (("add", -1),) * 2]
        for reach in (3, HUGE):
            heap = [*random_row(rng, 7, reach, ("add",)), *random_row(rng, 5, 2 * reach, ("floor", "cap"))]
            heaps.append(tuple(rng.sample(heap, 12)))
        began = time.monotonic()
        for heap in heaps:
            for start in (0, 5):
                told = quiet_orders(heap, start)
                self.assertEqual(told, self.counted(heap, start), (heap, start))
                order = quiet_order(heap, start)
                self.assertIs(order is None, told == 0)
                if order is not None:
                    self.assertIs(quiet(in_order(heap, order), start), True)
                    self.least(heap, start, order)
        self.assertLess(time.monotonic() - began, 20)
        self.assertEqual(quiet_orders(heaps[0], 5), math.factorial(12))
        self.assertEqual(quiet_order(heaps[0], 5), tuple(range(12)))

    def least(self, heap, start, order):
        """Nothing less can come at any place of the ORDER."""
        for at, place in enumerate(order):
            left = sorted(order[at:])
            level = end(in_order(heap, order[:at]), start)
            for other in left[:left.index(place)]:
                rest = tuple(heap[more] for more in left if more != other)
                if quiet((heap[other],), level):
                    self.assertEqual(self.counted(rest, end((heap[other],), level)), 0)


class Held(unittest.TestCase):
    def ends(self, adds, floor, cap, start):
        ends = set()
        for order in set(itertools.permutations(adds)):
            row = [event for number in order for event in (("add", number), ("floor", floor), ("cap", cap))]
            ends.add(end(row, start))
        return ends

    def check(self, adds, floor, cap, start):
        ends = self.ends(adds, floor, cap, start)
        self.assertEqual((lowest_held(adds, floor, cap, start), highest_held(adds, floor, cap, start)),
                         (min(ends), max(ends)), (adds, floor, cap, start))

    def test_all_small(self):
        for many in range(4):
            for adds in itertools.combinations_with_replacement(range(-3, 4), many):
                for floor, start, cap in ((0, 0, 0), (0, 1, 2), (-1, 1, 1), (-2, -2, 3), (-9, 0, 9)):
                    self.check(adds, floor, cap, start)

    def test_drawn(self):
        rng = random.Random("held")
        for reach in (4, 9, HUGE):
            for _ in range(60):
                floor, start, cap = sorted(rng.randint(-reach, reach) for _ in range(3))
                self.check(tuple(rng.randint(-reach, reach) for _ in range(rng.randint(0, 5))), floor, cap, start)

    def test_sixty_numbers(self):
        rng = random.Random("sixty held")
        for reach in (5, HUGE):
            for _ in range(20):
                floor, start, cap = sorted(rng.randint(-9 * reach, 9 * reach) for _ in range(3))
                adds = [rng.randint(-reach, reach) for _ in range(60)]
                held = [("floor", floor), ("cap", cap)]
                takes_first = [event for number in sorted(adds) for event in [("add", number), *held]]
                adds_first = [event for number in sorted(adds)[::-1] for event in [("add", number), *held]]
                self.assertEqual(highest_held(adds, floor, cap, start), end(takes_first, start))
                self.assertEqual(lowest_held(adds, floor, cap, start), end(adds_first, start))
                for _ in range(20):
                    rng.shuffle(adds)
                    mixed = end([event for number in adds for event in [("add", number), *held]], start)
                    self.assertTrue(lowest_held(adds, floor, cap, start) <= mixed
                                    <= highest_held(adds, floor, cap, start))


class Scaled(unittest.TestCase):
    def test_numbers_of_thirty_digits(self):
        rng, by = random.Random("scaled"), 10 ** 29
        for _ in range(40):
            heap, start = random_row(rng, rng.randint(1, 5), 9), rng.randint(-9, 9)
            great = scaled(heap, by)
            self.assertEqual((highest_order(great), lowest_order(great)), (highest_order(heap), lowest_order(heap)))
            self.assertEqual(highest_heap(great)(start * by), highest_heap(heap)(start) * by)
            self.assertEqual(lowest_heap(great)(start * by), lowest_heap(heap)(start) * by)
            ends = [(level * by, many) for level, many in ends_heap(heap, start)]
            self.assertEqual(ends_heap(great, start * by), ends)
            self.assertEqual(quiet_orders(great, start * by), quiet_orders(heap, start))
            self.assertEqual(quiet_order(great, start * by), quiet_order(heap, start))


if __name__ == "__main__":
    unittest.main()
