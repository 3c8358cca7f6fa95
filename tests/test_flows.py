"""Levels in a row, against levels that take what is given and called one by one."""

import itertools
import random
import time
import unittest

from boundedlevels.flows import (
    flow, flow_moments, flow_start, flow_times, flow_parting, flows_alike, greatest_flow, is_flow_parting, is_levels,
    is_limits, least_flow, orders_matter, room_lacking, store_lacking, sum_rows, sum_ways, sums_for, went_on,
)
from boundedlevels.ways import Way
from reckoning import HUGE, end, led_by, listed

LIMITS = ((0, 2), (0, 3))


def unit_by_unit(limits, levels, amounts):
    """(LEVELS, what went on from each level of gifts, of calls): each unit goes to the first level that takes it."""
    levels, more, less = list(levels), [0] * len(limits), [0] * len(limits)
    for amount in amounts:
        sign, passed = (1, more) if amount > 0 else (-1, less)
        for _ in range(abs(amount)):
            for at, (low, high) in enumerate(limits):
                if low <= levels[at] + sign <= high:
                    levels[at] += sign
                    break
                passed[at] += 1
    return tuple(levels), tuple(zip(more, less))


def one_by_one(limits, levels, amounts):
    """The same with each level taking what it can at once, for great numbers."""
    levels, more, less = list(levels), [0] * len(limits), [0] * len(limits)
    for amount in amounts:
        left = abs(amount)
        for at, (low, high) in enumerate(limits):
            room = high - levels[at] if amount > 0 else levels[at] - low
            moved = room if room < left else left
            levels[at] += moved if amount > 0 else -moved
            left -= moved
            (more if amount > 0 else less)[at] += left
    return tuple(levels), tuple(zip(more, less))


def end_of_flow(limits, levels, amounts):
    return one_by_one(limits, levels, amounts)[0]


def all_levels(limits):
    return list(itertools.product(*[range(low, high + 1) for low, high in limits]))


def sums(levels):
    return tuple(itertools.accumulate(levels))


def drawn_limits(rng, many, reach, wide):
    limits = []
    for _ in range(many):
        low = rng.randint(-reach, reach)
        limits.append((low, low + rng.choice((0, rng.randint(0, wide), rng.randint(0, wide)))))
    return tuple(limits)


def drawn_levels(rng, limits):
    return tuple(rng.choice((low, high, rng.randint(low, high))) for low, high in limits)


def drawn_amounts(rng, many, reach):
    return tuple(rng.choice((0, rng.randint(-reach, reach), rng.randint(-reach, reach))) for _ in range(many))


def drawn_cases(seed, count, levels=3, amounts=5, reach=2, wide=3):
    """So many (LIMITS, AMOUNTS), of one level and of no amounts among them."""
    rng = random.Random(seed)
    cases = [(((0, 0),), ()), (((-2, 3),), ()), (LIMITS, ()), (((0, 2),), (0, 0)), (((1, 1), (2, 2)), (5, -5))]
    for _ in range(count):
        limits = drawn_limits(rng, rng.randint(1, levels), reach, wide)
        cases.append((limits, drawn_amounts(rng, rng.randint(0, amounts), 4)))
    return cases


def times_over(value, by):
    return tuple(times_over(part, by) for part in value) if isinstance(value, tuple) else value * by


class Flow(unittest.TestCase):
    def test_unit_by_unit(self):
        for limits, amounts in drawn_cases("units", 120):
            for levels in all_levels(limits):
                told, passed = unit_by_unit(limits, levels, amounts)
                self.assertEqual(flow(limits, levels, amounts), told, (limits, levels, amounts))
                self.assertEqual(went_on(limits, levels, amounts), passed, (limits, levels, amounts))
                self.assertEqual(flow_moments(limits, levels, amounts),
                                 [unit_by_unit(limits, levels, amounts[:many])[0] for many in range(len(amounts) + 1)])
                self.assertEqual(one_by_one(limits, levels, amounts), (told, passed))

    def test_great_numbers(self):
        rng = random.Random("great")
        for _ in range(150):
            limits = drawn_limits(rng, rng.randint(1, 8), HUGE // 10, HUGE)
            levels, amounts = drawn_levels(rng, limits), drawn_amounts(rng, rng.randint(0, 40), HUGE)
            told, passed = one_by_one(limits, levels, amounts)
            self.assertEqual((flow(limits, levels, amounts), went_on(limits, levels, amounts)), (told, passed))
            moments = flow_moments(limits, levels, amounts)
            self.assertEqual([len(moments), moments[0], moments[-1]], [len(amounts) + 1, levels, told])

    def test_kinds(self):
        levels, amounts = [1, 1], [4, -4]
        told = flow(listed(LIMITS), levels, amounts)
        self.assertEqual((type(told), told), (tuple, (0, 1)))
        moments = flow_moments(listed(LIMITS), levels, amounts)
        self.assertEqual([type(moment) for moment in moments], [tuple] * 3)
        moments.append("mine")
        self.assertEqual(flow_moments(LIMITS, levels, amounts), [(1, 1), (2, 3), (0, 1)])
        self.assertEqual((levels, amounts), ([1, 1], [4, -4]))
        self.assertEqual(flow(LIMITS, [2, 0], []), (2, 0))
        self.assertEqual([type(pair) for pair in went_on(LIMITS, levels, amounts)], [tuple] * 2)

    def test_times(self):
        for limits, amounts in drawn_cases("times", 60):
            for levels in all_levels(limits)[::3]:
                now = levels
                for times in range(9):
                    self.assertEqual(flow_times(limits, levels, amounts, times), now, (limits, levels, amounts, times))
                    now = end_of_flow(limits, now, amounts)
                # Each sum comes to rest in at most as many times as there are sums.
                for _ in range(40):
                    now = end_of_flow(limits, now, amounts)
                self.assertEqual(end_of_flow(limits, now, amounts), now)
                for times in (10 ** 9, HUGE - 1, HUGE):
                    self.assertEqual(flow_times(limits, levels, amounts, times), now, (limits, levels, amounts))

    def test_times_far_from_rest(self):
        limits = ((0, HUGE), (-HUGE, HUGE))
        for times in (0, 1, 7, 10 ** 9, HUGE // 3, HUGE):
            # Behind each time the sums at both levels are one below their highs at most.
            first, both = min(times * 2, HUGE - 1), min(times * 2, 3 * HUGE - 1)
            self.assertEqual(flow_times(limits, (0, -HUGE), (3, -1), times), (first, -HUGE + both - first))
        self.assertEqual(flow_times(limits, [5, 7], [], HUGE), (5, 7))
        self.assertIs(type(flow_times(limits, [5, 7], [], 0)), tuple)


class Sums(unittest.TestCase):
    def test_rows_and_ways(self):
        for limits, amounts in drawn_cases("rows", 80):
            lows, highs = sums([low for low, _ in limits]), sums([high for _, high in limits])
            rows = sum_rows(limits, amounts)
            self.assertEqual(rows, tuple(tuple(event for amount in amounts for event in (
                ("add", amount), ("floor", low), ("cap", high))) for low, high in zip(lows, highs)))
            ways = sum_ways(limits, amounts)
            self.assertEqual([type(ways), *[type(way) for way in ways]], [tuple] + [Way] * len(limits))
            for levels in all_levels(limits):
                told = sums(end_of_flow(limits, levels, amounts))
                self.assertEqual(tuple(way(total) for way, total in zip(ways, sums(levels))), told)
                self.assertEqual(tuple(end(row, total) for row, total in zip(rows, sums(levels))), told)

    def test_no_amounts(self):
        self.assertEqual((sum_rows(LIMITS, ()), sum_ways(LIMITS, ())), (((), ()), (Way(0), Way(0))))
        self.assertEqual(sum_rows(LIMITS, (0,)), ((("add", 0), ("floor", 0), ("cap", 2)),
                                                  (("add", 0), ("floor", 0), ("cap", 5))))
        self.assertEqual(sum_ways(LIMITS, [0, 0]), (Way(0, 0, 2), Way(0, 0, 5)))

    def test_sums_for(self):
        for limits, amounts in drawn_cases("sums", 60):
            levels = all_levels(limits)
            lows, highs = sums([low for low, _ in limits]), sums([high for _, high in limits])
            ends = {start: end_of_flow(limits, start, amounts) for start in levels}
            for goal in levels:
                starts = [[total for total in range(low, high + 1) if led_by_steps(total, low, high, amounts) == wanted]
                          for low, high, wanted in zip(lows, highs, sums(goal))]
                expected = tuple((at[0], at[-1]) for at in starts) if all(starts) else None
                told = sums_for(limits, amounts, goal)
                self.assertEqual(told, expected, (limits, amounts, goal))
                leading = [start for start in levels if ends[start] == goal]
                if told is not None:
                    self.assertEqual(leading, [start for start in levels if all(
                        low <= total <= high for (low, high), total in zip(told, sums(start)))])
                self.check_start(limits, amounts, goal, leading)

    def check_start(self, limits, amounts, goal, leading):
        told = flow_start(limits, amounts, goal)
        if leading:
            self.assertIn(told, leading, (limits, amounts, goal))
            self.assertIs(type(told), tuple)
        else:
            self.assertIsNone(told, (limits, amounts, goal))

    def test_start_at_the_bounds(self):
        rng = random.Random("start")
        for _ in range(60):
            limits = drawn_limits(rng, 8, HUGE // 100, HUGE // 8)
            amounts = drawn_amounts(rng, 40, HUGE // 50)
            levels = drawn_levels(rng, limits)
            goal = end_of_flow(limits, levels, amounts)
            told = flow_start(limits, amounts, goal)
            self.assertIs(is_levels(limits, told), True)
            self.assertEqual(end_of_flow(limits, told, amounts), goal)
            pairs = sums_for(limits, amounts, goal)
            self.assertTrue(all(low <= total <= high for (low, high), total in zip(pairs, sums(levels))))
            for at, (least, greatest) in enumerate(pairs):
                low, high = sums([low for low, _ in limits])[at], sums([high for _, high in limits])[at]
                for total, right in ((least, True), (greatest, True), (least - 1, False), (greatest + 1, False)):
                    if low <= total <= high:
                        self.assertIs(led_by_steps(total, low, high, amounts) == sums(goal)[at], right)


def led_by_steps(total, low, high, amounts):
    for amount in amounts:
        total = led_by((amount, low, high) if low < high else (None, low, low), total)
    return total


class Alike(unittest.TestCase):
    def check(self, limits, amounts, others):
        levels = all_levels(limits)
        parting = [start for start in levels
                   if end_of_flow(limits, start, amounts) != end_of_flow(limits, start, others)]
        told = flow_parting(limits, amounts, others)
        self.assertIs(flows_alike(limits, amounts, others), not parting, (limits, amounts, others))
        if parting:
            self.assertIn(told, parting, (limits, amounts, others))
        else:
            self.assertIsNone(told, (limits, amounts, others))
        for thing in levels + [(start[0] + 1, *start[1:]) for start in levels]:
            self.assertIs(is_flow_parting(limits, amounts, others, thing), thing in parting)
            self.assertIs(is_flow_parting(limits, amounts, others, list(thing)), False)

    def test_drawn(self):
        rng = random.Random("alike")
        for limits, amounts in drawn_cases("alike", 120, amounts=4):
            others = drawn_amounts(rng, rng.randint(0, 4), 4)
            self.check(limits, amounts, others)
            self.check(limits, amounts, amounts + (0,))
            self.check(limits, amounts, tuple(rng.sample(amounts, len(amounts))))
            if amounts:
                # Split in two, an amount does the same.
                self.check(limits, amounts, (amounts[0] // 2, amounts[0] - amounts[0] // 2, *amounts[1:]))

    def test_great_numbers(self):
        rng = random.Random("great")
        parting = 0
        for _ in range(100):
            limits = drawn_limits(rng, rng.randint(1, 8), HUGE // 10, HUGE)
            amounts = drawn_amounts(rng, rng.randint(0, 20), HUGE // 9)
            others = (*amounts[:-1], sum(amounts[-1:]) + rng.choice((0, 1, -1)))
            told = flow_parting(limits, amounts, others)
            self.assertIs(flows_alike(limits, amounts, others), told is None)
            if told is not None:
                parting += 1
                self.assertIs(is_levels(limits, told), True)
                self.assertIs(is_flow_parting(limits, amounts, others, told), True)
                self.assertNotEqual(end_of_flow(limits, told, amounts), end_of_flow(limits, told, others))
            for levels in [drawn_levels(rng, limits) for _ in range(5)]:
                differ = end_of_flow(limits, levels, amounts) != end_of_flow(limits, levels, others)
                self.assertIs(is_flow_parting(limits, amounts, others, levels), differ)
                self.assertFalse(differ and told is None)
        self.assertTrue(20 < parting < 100)

    def test_one_start_alone(self):
        # Only the empty levels are without what is called.
        limits = ((0, HUGE), (0, HUGE))
        self.assertEqual(flow_parting(limits, (-1, 1), (0,)), (0, 0))
        self.assertEqual(flow_parting(((0, HUGE),), (1, -1), ()), (HUGE,))
        self.assertEqual(flow_parting(((0, 0), (0, HUGE)), (1, -1), ()), (0, HUGE))
        self.assertIsNone(flow_parting(limits, (HUGE, 5), (5, HUGE)))


class Lacking(unittest.TestCase):
    def test_by_trying(self):
        for limits, amounts in drawn_cases("lacking", 80):
            for levels in all_levels(limits)[::2]:
                low, high = limits[-1]
                rooms = (by for by in itertools.count()
                         if unit_by_unit((*limits[:-1], (low, high + by)), levels, amounts)[1][-1][0] == 0)
                stores = (by for by in itertools.count()
                          if unit_by_unit((*limits[:-1], (low - by, high)), levels, amounts)[1][-1][1] == 0)
                self.assertEqual(room_lacking(limits, levels, amounts), next(rooms), (limits, levels, amounts))
                self.assertEqual(store_lacking(limits, levels, amounts), next(stores), (limits, levels, amounts))

    def test_great_numbers(self):
        rng = random.Random("lacking")
        for _ in range(150):
            limits = drawn_limits(rng, rng.randint(1, 8), HUGE // 10, HUGE)
            levels, amounts = drawn_levels(rng, limits), drawn_amounts(rng, rng.randint(0, 40), HUGE)
            for function, side, last in ((room_lacking, 0, lambda low, high, by: (low, high + by)),
                                         (store_lacking, 1, lambda low, high, by: (low - by, high))):
                lacks = function(limits, levels, amounts)
                self.assertGreaterEqual(lacks, 0)
                wide = (*limits[:-1], last(*limits[-1], lacks))
                self.assertEqual(one_by_one(wide, levels, amounts)[1][-1][side], 0)
                if lacks > 0:
                    narrow = (*limits[:-1], last(*limits[-1], lacks - 1))
                    self.assertGreater(one_by_one(narrow, levels, amounts)[1][-1][side], 0)


class Orders(unittest.TestCase):
    def check(self, limits, amounts):
        orders = sorted(set(itertools.permutations(amounts)))
        matter = False
        for levels in all_levels(limits):
            ends = {end_of_flow(limits, levels, order) for order in orders}
            matter = matter or len(ends) > 1
            greatest, least = greatest_flow(limits, levels, amounts), least_flow(limits, levels, amounts)
            self.assertIn(greatest, ends)
            self.assertIn(least, ends)
            for at in range(len(limits)):
                totals = [sums(told)[at] for told in ends]
                self.assertEqual((sums(least)[at], sums(greatest)[at]), (min(totals), max(totals)))
            calls, gifts = [n for n in amounts if n < 0], [n for n in amounts if n >= 0]
            self.assertEqual(greatest, end_of_flow(limits, levels, calls + gifts))
            self.assertEqual(least, end_of_flow(limits, levels, gifts + calls))
        self.assertIs(orders_matter(limits, amounts), matter, (limits, amounts))

    def test_drawn(self):
        for limits, amounts in drawn_cases("orders", 60, levels=2, amounts=4):
            self.check(limits, amounts)
        for limits, amounts in drawn_cases("wide", 30, levels=3, amounts=3, wide=5):
            self.check(limits, amounts)

    def test_when_orders_do_not_matter(self):
        for amounts in ((), (0,), (5, 9, 1), (-5, -9), (HUGE, 0, 1)):
            self.assertIs(orders_matter(LIMITS, amounts), False)
        for limits in (((0, 0),), ((3, 3), (-5, -5))):
            self.assertIs(orders_matter(limits, (HUGE, -HUGE, 4)), False)
        self.assertIs(orders_matter(((0, HUGE),), (1, -1)), True)
        self.assertIs(orders_matter(((0, 3),), (9, -2)), True)
        self.assertIs(orders_matter(((0, 3),), (9, -2, 9)), True)

    def test_at_the_bounds(self):
        rng = random.Random("forty")
        began = time.monotonic()
        for _ in range(10):
            limits = drawn_limits(rng, 8, HUGE // 10, HUGE)
            levels, amounts = drawn_levels(rng, limits), drawn_amounts(rng, 40, HUGE // 9)
            greatest, least = sums(greatest_flow(limits, levels, amounts)), sums(least_flow(limits, levels, amounts))
            for _ in range(20):
                told = sums(end_of_flow(limits, levels, rng.sample(amounts, 40)))
                self.assertTrue(all(low <= total <= high for low, total, high in zip(least, told, greatest)))
            self.assertIs(orders_matter(limits, amounts), True)
        self.assertLess(time.monotonic() - began, 10)


class Scaled(unittest.TestCase):
    def test_numbers_of_thirty_digits(self):
        by = 10 ** 29
        rng = random.Random("scaled")
        for limits, amounts in drawn_cases("scaled", 40):
            great, more = times_over(limits, by), times_over(amounts, by)
            self.assertIs(is_limits(great), True)
            levels = rng.choice(all_levels(limits))
            for function in (flow, went_on, greatest_flow, least_flow, room_lacking, store_lacking):
                self.assertEqual(function(great, times_over(levels, by), more),
                                 times_over(function(limits, levels, amounts), by), function.__name__)
            for times in (0, 1, 3, HUGE):
                self.assertEqual(flow_times(great, times_over(levels, by), more, times),
                                 times_over(flow_times(limits, levels, amounts, times), by))
            self.assertIs(orders_matter(great, more), orders_matter(limits, amounts))


if __name__ == "__main__":
    unittest.main()
