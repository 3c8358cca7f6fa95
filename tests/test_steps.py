"""STEPS and DEEDS in an unknown order, against all ORDERs one by one."""

import itertools
import random
import time
import unittest

from boundedlevels.heaps import (
    highest_deed_order, highest_deeds, highest_step_order, highest_steps, lowest_deed_order, lowest_deeds,
    lowest_step_order, lowest_steps, step_need,
)
from boundedlevels.ways import Way
from reckoning import FAR, HUGE, end, listed, random_row, scaled, stepped, turning_starts


def in_order(things, order):
    return [things[place] for place in order]


def row_of_steps(steps):
    """The ROW of what STEPS do, one behind another."""
    return tuple(event for added, least in steps for event in (("add", added), ("floor", least)))


def need_of(steps):
    """The least start from which these STEPS, in this order, lift nothing, by trying."""
    row = row_of_steps(steps)
    reach = sum(abs(number) for _, number in row) + 1
    low, high = -reach, reach
    while high - low > 1:
        middle = (low + high) // 2
        low, high = (low, middle) if lifts_nothing(row, middle) else (middle, high)
    return high


def lifts_nothing(row, start):
    levels = stepped(row, start)
    return all(word == "add" or ahead == behind for (word, _), ahead, behind in zip(row, levels, levels[1:]))


def drawn_steps(rng, many, reach):
    return tuple((rng.randint(-reach, reach), rng.randint(-reach, reach)) for _ in range(many))


class Steps(unittest.TestCase):
    def check(self, steps, starts):
        rows = [row_of_steps(in_order(steps, order)) for order in itertools.permutations(range(len(steps)))]
        told = [row_of_steps(in_order(steps, function(steps))) for function in (lowest_step_order, highest_step_order)]
        lowest, highest = lowest_steps(steps), highest_steps(steps)
        for start in starts:
            ends = [end(row, start) for row in rows]
            self.assertEqual((lowest(start), highest(start)), (min(ends), max(ends)), (steps, start))
            self.assertEqual([end(row, start) for row in told], [min(ends), max(ends)], (steps, start))

    def starts(self, rng, steps):
        turns = {0}
        for order in itertools.islice(itertools.permutations(range(len(steps))), 24):
            turns.update(turning_starts(row_of_steps(in_order(steps, order))))
        return [*rng.sample(sorted(turns), min(12, len(turns))), min(turns), max(turns), *FAR]

    def test_all_small(self):
        pairs = list(itertools.product((-2, -1, 0, 1, 2), (-1, 0, 2)))
        for many in range(3):
            for steps in itertools.product(pairs, repeat=many):
                self.check(steps, range(-5, 6))

    def test_drawn(self):
        rng = random.Random("steps")
        for reach in (2, 4, 9, HUGE):
            for _ in range(25):
                steps = drawn_steps(rng, rng.randint(1, 5), reach)
                self.check(steps, self.starts(rng, steps))

    def test_orders_are_orders(self):
        rng = random.Random("orders")
        for many in (0, 1, 2, 7, 40):
            steps = drawn_steps(rng, many, 5)
            for function in (lowest_step_order, highest_step_order):
                order = function(steps)
                self.assertIs(type(order), tuple)
                self.assertEqual(sorted(order), list(range(many)))
                self.assertEqual(function(listed(steps)), order)

    def test_need(self):
        rng = random.Random("need")
        for reach in (2, 5, HUGE):
            for _ in range(25):
                steps = drawn_steps(rng, rng.randint(1, 4), reach)
                needs = [need_of(in_order(steps, order)) for order in itertools.permutations(range(len(steps)))]
                self.assertEqual(step_need(steps), min(needs), steps)
                # The same ORDER has the least end, and lifts nothing from there on.
                self.assertEqual(need_of(in_order(steps, lowest_step_order(steps))), min(needs), steps)

    def test_no_steps(self):
        self.assertIsNone(step_need(()))
        self.assertIsNone(step_need([]))
        self.assertEqual((lowest_steps(()), highest_steps(())), (Way(0), Way(0)))
        self.assertEqual((lowest_step_order(()), highest_step_order([])), ((), ()))

    def test_forty_steps(self):
        rng = random.Random("forty")
        began = time.monotonic()
        for reach in (3, 9, HUGE, HUGE):
            steps = drawn_steps(rng, 40, reach)
            lowest, highest = lowest_steps(steps), highest_steps(steps)
            rows = [row_of_steps(in_order(steps, order)) for order in (lowest_step_order(steps),
                                                                       highest_step_order(steps))]
            turns = [lowest.floor - lowest.shift, highest.floor - highest.shift]
            starts = [turn + by for turn in turns for by in (-1, 0, 1)] + list(FAR)
            for start in starts:
                self.assertEqual([end(row, start) for row in rows], [lowest(start), highest(start)])
            self.assertEqual(step_need(steps), turns[0])
            self.assertEqual((lifts_nothing(rows[0], turns[0]), lifts_nothing(rows[0], turns[0] - 1)), (True, False))
            for _ in range(150):
                row = row_of_steps(rng.sample(steps, 40))
                for start in rng.sample(starts, 4):
                    self.assertTrue(lowest(start) <= end(row, start) <= highest(start))
        self.assertLess(time.monotonic() - began, 10)

    def test_numbers_of_thirty_digits(self):
        rng, by = random.Random("scaled"), 10 ** 29
        for _ in range(40):
            steps = drawn_steps(rng, rng.randint(1, 6), 9)
            great = tuple((added * by, least * by) for added, least in steps)
            self.assertEqual(step_need(great), step_need(steps) * by)
            for function in (lowest_steps, highest_steps):
                way = function(steps)
                self.assertEqual(function(great), Way(way.shift * by, way.floor * by))


def row_of_deeds(deeds):
    return tuple(event for row in deeds for event in row)


def greatest_ends(deeds, start, best):
    """The best end by what is done already: max or min, as a level that is no less ends no less."""
    levels = {(): start}
    for _ in deeds:
        following = {}
        for done, level in levels.items():
            for place, row in enumerate(deeds):
                if place not in done:
                    key = tuple(sorted((*done, place)))
                    reached = end(row, level)
                    following[key] = best(reached, following.get(key, reached))
        levels = following
    return levels[tuple(range(len(deeds)))]


class Deeds(unittest.TestCase):
    def check(self, deeds, rng):
        rows = sorted({row_of_deeds(in_order(deeds, order)) for order in itertools.permutations(range(len(deeds)))})
        lowest, highest = lowest_deeds(deeds), highest_deeds(deeds)
        turns = sorted({start for row in rng.sample(rows, min(6, len(rows))) for start in turning_starts(row)})
        starts = [*rng.sample(turns, min(14, len(turns))), *turns[:2], *turns[-2:], *FAR]
        for start in starts:
            ends = [end(row, start) for row in rows]
            self.assertEqual((lowest(start), highest(start)), (min(ends), max(ends)), (deeds, start))
            self.assertEqual((min(ends), max(ends)), (greatest_ends(deeds, start, min),
                                                      greatest_ends(deeds, start, max)))
        for start in rng.sample(starts, 5):
            for function, way in ((lowest_deed_order, lowest), (highest_deed_order, highest)):
                order = function(deeds, start)
                self.assertEqual((type(order), sorted(order)), (tuple, list(range(len(deeds)))))
                self.assertEqual(end(row_of_deeds(in_order(deeds, order)), start), way(start), (deeds, start))

    def test_drawn(self):
        rng = random.Random("deeds")
        for reach in (2, 6, HUGE):
            for _ in range(15):
                self.check(tuple(random_row(rng, rng.randint(0, 4), reach) for _ in range(rng.randint(1, 4))), rng)

    def test_single_events_and_empty_rows(self):
        rng = random.Random("single")
        for deeds in ((), ((),), ((), (), ()), ((("add", 1),), (("floor", 0),), (("cap", 0),)),
                      ((("floor", 4), ("cap", 4)), (("add", 2),), ())):
            self.check(deeds, rng)
        self.assertEqual((lowest_deeds(()), highest_deeds(())), (Way(0), Way(0)))
        self.assertEqual((lowest_deed_order((), 5), highest_deed_order([], 5)), ((), ()))

    def test_constants_among_them(self):
        rng = random.Random("constants")
        for reach in (3, HUGE):
            for _ in range(8):
                level = rng.randint(-reach, reach)
                deeds = [random_row(rng, rng.randint(1, 3), reach) for _ in range(2)]
                self.check((*deeds, (("cap", level), ("floor", level))), rng)

    def test_eight_deeds_of_six_events(self):
        rng = random.Random("eight")
        began = time.monotonic()
        for reach in (4, 20, HUGE):
            deeds = tuple(random_row(rng, 6, reach) for _ in range(8))
            lowest, highest = lowest_deeds(deeds), highest_deeds(deeds)
            turns = [bound - (way.shift or 0) + by for way in (lowest, highest) for by in (-1, 0, 1)
                     for bound in (way.floor, way.cap) if bound is not None]
            for start in (*turns, 0, -10 ** 40, 10 ** 40):
                self.assertEqual((lowest(start), highest(start)),
                                 (greatest_ends(deeds, start, min), greatest_ends(deeds, start, max)))
                for function, way in ((lowest_deed_order, lowest), (highest_deed_order, highest)):
                    order = function(deeds, start)
                    self.assertEqual(sorted(order), list(range(8)))
                    self.assertEqual(end(row_of_deeds(in_order(deeds, order)), start), way(start))
        self.assertLess(time.monotonic() - began, 20)

    def test_numbers_of_thirty_digits(self):
        rng, by = random.Random("scaled"), 10 ** 29
        for _ in range(25):
            deeds = tuple(random_row(rng, rng.randint(0, 4), 9) for _ in range(rng.randint(1, 5)))
            great, start = tuple(scaled(row, by) for row in deeds), rng.randint(-9, 9)
            for ways, orders in ((lowest_deeds, lowest_deed_order), (highest_deeds, highest_deed_order)):
                self.assertEqual(ways(great)(start * by), ways(deeds)(start) * by)
                self.assertEqual(orders(great, start * by), orders(deeds, start))


if __name__ == "__main__":
    unittest.main()
