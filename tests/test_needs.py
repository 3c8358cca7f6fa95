"""What must be put into a ROW, against all numbers that can matter, and all AMOUNTS of small ROWs."""

import itertools
import random
import time
import unittest

from boundedlevels.errors import NoPlace, Unlike
from boundedlevels.needs import (
    adds_between, caps_between, cheapest, cheapest_amounts, floors_between, greatest_floor, least_cap, price_of,
    with_adds,
)
from boundedlevels.plain import is_row
from reckoning import (
    FAR, HUGE, crossing_starts, end, every_bounds, every_row, listed, random_row, random_rows, scaled, stretch_fault,
)

ROW = (("add", -4), ("cap", 6), ("add", -3))
BETWEEN = {"add": adds_between, "floor": floors_between, "cap": caps_between}


def put(row, place, event):
    return (*row[:place], event, *row[place:])


class Between(unittest.TestCase):
    def check(self, row, place, start, low, high):
        level, rest = end(row[:place], start), row[place:]
        bounds = [bound for bound in (low, high) if bound is not None]
        turns = crossing_starts(rest, *bounds)
        for word, function in BETWEEN.items():
            numbers = {turn - level for turn in turns} if word == "add" else {*turns, level - 1, level, level + 1}
            # Beyond each number at which something turns, and between it and the next one, all is the same.
            tried = sorted({*numbers, *FAR})

            def holds(number):
                told = end(put(row, place, (word, number)), start)
                return (low is None or told >= low) and (high is None or told <= high)
            fault = stretch_fault(function(row, place, start, low, high), tried, holds)
            self.assertIsNone(fault, (word, row, place, start, low, high))

    def test_all_kinds_of_bounds(self):
        rng = random.Random("bounds")
        rows = [(), ROW, *rng.sample(list(every_row(2, 2)), 25), *random_rows("between", 10, 5, (3,))]
        for row in rows:
            for place in range(len(row) + 1):
                for low, high in rng.sample(every_bounds(4), 14) + [(None, None), (0, 0)]:
                    self.check(row, place, rng.randint(-6, 6), low, high)

    def test_drawn_rows(self):
        rng = random.Random("drawn")
        for row in random_rows("between drawn", 90, 8):
            reach = max([abs(number) for _, number in row], default=3) + 1
            for place in range(len(row) + 1):
                low, high = sorted(rng.randint(-reach, reach) for _ in range(2))
                low, high = rng.choice(((low, high), (low, high), (low, None), (None, high), (low, low)))
                self.check(row, place, rng.randint(-reach, reach), low, high)

    def test_each_gap_of_sixty_events(self):
        rng = random.Random("sixty")
        for reach in (3, HUGE):
            row = random_row(rng, 60, reach)
            for place in range(61):
                low, high = sorted(rng.randint(-reach, reach) for _ in range(2))
                self.check(row, place, rng.randint(-reach, reach), low, high)

    def test_no_events(self):
        self.assertEqual([function((), 0, 5, 3, 9) for function in BETWEEN.values()], [(-2, 4), (None, 9), (3, None)])
        self.assertEqual([function((), 0, 5, None, None) for function in BETWEEN.values()], [(None, None)] * 3)
        self.assertEqual([function((), 0, 5, 6, None) for function in BETWEEN.values()], [(1, None), (6, None), None])
        self.assertEqual([function((), 0, 5, None, 4) for function in BETWEEN.values()], [(None, -1), None, (None, 4)])

    def test_no_place(self):
        for row in (ROW, (), listed(ROW)):
            for place in (-1, -len(row) - 1, len(row) + 1, HUGE, -HUGE):
                for function in BETWEEN.values():
                    with self.subTest(place=place), self.assertRaises(NoPlace) as caught:
                        function(row, place, 0, 5, 9)
                    self.assertEqual(caught.exception.place, place)
            for function in BETWEEN.values():
                self.assertEqual(function(row, len(row), 0, None, None), (None, None))


def kept_under(row, number):
    return tuple(part for event in row for part in (event, ("cap", number)))


def kept_above(row, number):
    return tuple(part for event in row for part in (event, ("floor", number)))


class Kept(unittest.TestCase):
    def check(self, row, start, goal, tried):
        caps = [number for number in tried if end(kept_under(row, number), start) >= goal]
        floors = [number for number in tried if end(kept_above(row, number), start) <= goal]
        self.assertEqual(least_cap(row, start, goal), min(caps, default=None), (row, start, goal))
        self.assertEqual(greatest_floor(row, start, goal), max(floors, default=None), (row, start, goal))

    def test_by_trying(self):
        rng = random.Random("kept")
        for row in [*rng.sample(list(every_row(2, 2))[1:], 60), *random_rows("kept", 60, 6, (2, 4))]:
            if row:
                for _ in range(6):
                    self.check(row, rng.randint(-8, 8), rng.randint(-8, 8), range(-70, 71))

    def test_great_numbers(self):
        rng = random.Random("great")
        found = 0
        for row in [*random_rows("kept great", 60, 60), *[random_row(rng, 60, HUGE) for _ in range(6)]]:
            if not row:
                continue
            start = rng.randint(-HUGE, HUGE)
            for goal in (end(row, start), end(row, start) - 1, end(row, start) + 1, rng.randint(-HUGE, HUGE)):
                for told, kept, by, reached in (
                        (least_cap(row, start, goal), kept_under, 1, end(row, start) >= goal),
                        (greatest_floor(row, start, goal), kept_above, -1, end(row, start) <= goal)):
                    self.assertIs(told is not None, reached)
                    if told is not None:
                        found += 1
                        self.assertTrue(end(kept(row, told), start) * by >= goal * by)
                        self.assertTrue(end(kept(row, told - by), start) * by < goal * by)
        self.assertGreater(found, 100)

    def test_one_event(self):
        self.assertEqual((least_cap((("floor", 3),), 0, 3), least_cap((("floor", 3),), 0, 4)), (3, None))
        self.assertEqual((greatest_floor((("cap", 3),), 9, 3), greatest_floor((("cap", 3),), 9, 2)), (3, None))
        self.assertEqual((least_cap((("add", 0),), HUGE, -HUGE), greatest_floor((("add", 0),), -HUGE, HUGE)),
                         (-HUGE, HUGE))
        # The start itself is not kept.
        self.assertEqual(least_cap((("add", -9),), 9, 0), 0)


def added(row, amounts):
    events = []
    for at, amount in enumerate(amounts):
        events += [("add", amount)] if amount > 0 else []
        events += [row[at]] if at < len(row) else []
    return tuple(events)


def by_all_amounts(row, prices, start, goal, most):
    """The least price of AMOUNTS from 0 to most each that do."""
    found = [sum(amount * price for amount, price in zip(amounts, prices))
             for amounts in itertools.product(range(most + 1), repeat=len(prices))
             if end(added(row, amounts), start) >= goal]
    return min(found, default=None)


def unit_by_unit(row, prices, start, goal, reach):
    """The least price, by the least price of each level from -reach to reach at each place, raised one by one."""
    costs = {start: 0}
    for at, price in enumerate(prices):
        for level in range(-reach, reach):
            if level in costs:
                cost = costs[level] + price
                costs[level + 1] = min(cost, costs.get(level + 1, cost))
        if at < len(row):
            following = {}
            for level, cost in costs.items():
                behind = end((row[at],), level)
                following[behind] = min(cost, following.get(behind, cost))
            costs = following
    return min(cost for level, cost in costs.items() if level >= goal)


def drawn_prices(rng, many, greatest):
    return tuple(rng.choice((0, 1, rng.randint(0, greatest), rng.randint(0, greatest))) for _ in range(many))


class Cheapest(unittest.TestCase):
    def check_amounts(self, row, prices, start, goal):
        """AMOUNTS that do, at the price that is told."""
        amounts = cheapest_amounts(row, prices, start, goal)
        self.assertEqual((type(amounts), len(amounts)), (tuple, len(row) + 1))
        self.assertTrue(all(amount >= 0 for amount in amounts))
        self.assertGreaterEqual(end(added(row, amounts), start), goal, (row, prices, start, goal))
        price = cheapest(row, prices, start, goal)
        self.assertEqual(sum(amount * each for amount, each in zip(amounts, prices)), price)
        return price

    def test_all_amounts(self):
        rng = random.Random("amounts")
        for many, most, count in ((0, 12, 20), (1, 12, 60), (2, 9, 60), (3, 6, 40)):
            for _ in range(count):
                row, prices = random_row(rng, many, 2), drawn_prices(rng, many + 1, 4)
                start = rng.randint(-2, 2)
                goal = min(rng.randint(-3, 3), end(row, start) + most)
                self.assertEqual(self.check_amounts(row, prices, start, goal),
                                 by_all_amounts(row, prices, start, goal, most), (row, prices, start, goal))

    def test_unit_by_unit(self):
        rng = random.Random("units")
        for _ in range(350):
            row = random_row(rng, rng.randint(0, 8), rng.choice((2, 5)))
            prices = drawn_prices(rng, len(row) + 1, rng.choice((2, 9)))
            start, goal = rng.randint(-6, 6), rng.randint(-9, 12)
            self.assertEqual(self.check_amounts(row, prices, start, goal),
                             unit_by_unit(row, prices, start, goal, 120), (row, prices, start, goal))

    def test_floors_that_lift(self):
        # Cheap below the floor is of no use: what the floor lifts needs not be paid for.
        row = (("add", -1), ("floor", 5), ("add", -4))
        self.assertEqual(cheapest(row, (1, 3, 9, 9), 0, 1), 0)
        self.assertEqual(cheapest(row, (1, 3, 9, 9), 0, 2), min(1 * (1 + 6), 3 * 7, 9))
        self.assertEqual(cheapest(row, (1, 3, 9, 9), 5, 2), 2)
        self.assertEqual(cheapest(row, (1, 3, 9, 9), -HUGE, 2), 9)

    def test_nothing_needed(self):
        for row in [(), ROW, *random_rows("nothing", 20, 8)]:
            for start in (0, 9, HUGE):
                for goal in (end(row, start), end(row, start) - 1, -10 ** 40):
                    self.assertEqual(self.check_amounts(row, (1,) * (len(row) + 1), start, goal), 0)
                    self.assertEqual(cheapest_amounts(row, (1,) * (len(row) + 1), start, goal), (0,) * (len(row) + 1))

    def test_numbers_of_thirty_digits(self):
        rng, by = random.Random("scaled"), 10 ** 28
        for _ in range(80):
            row = random_row(rng, rng.randint(0, 7), 9)
            prices, start, goal = drawn_prices(rng, len(row) + 1, 9), rng.randint(-9, 9), rng.randint(-9, 20)
            price = cheapest(row, prices, start, goal)
            great = scaled(row, by)
            self.assertEqual(self.check_amounts(great, prices, start * by, goal * by), price * by)
            dear = tuple(each * by for each in prices)
            self.assertEqual(self.check_amounts(great, dear, start * by, goal * by), price * by * by)

    def test_sixty_events(self):
        rng = random.Random("sixty")
        began = time.monotonic()
        for _ in range(8):
            row, prices = random_row(rng, 60, 5), drawn_prices(rng, 61, 30)
            start, goal = rng.randint(-20, 20), rng.randint(-20, 60)
            price = unit_by_unit(row, prices, start, goal, 700)
            self.assertEqual(self.check_amounts(row, prices, start, goal), price)
            by = 10 ** 29
            self.assertEqual(cheapest(scaled(row, by), prices, start * by, goal * by), price * by)
        for _ in range(4):
            row, prices = random_row(rng, 60, HUGE), drawn_prices(rng, 61, HUGE)
            self.check_amounts(row, prices, -HUGE, HUGE)
        self.assertLess(time.monotonic() - began, 20)


class Amounts(unittest.TestCase):
    def test_with_adds(self):
        for row in [(), ROW, *random_rows("adds", 20, 5)]:
            for amounts in itertools.islice(itertools.product((0, 1, HUGE), repeat=len(row) + 1), 200):
                told = with_adds(row, amounts)
                self.assertEqual(told, added(row, amounts))
                self.assertEqual(with_adds(listed(row), list(amounts)), told)
                self.assertIs(is_row(with_adds(listed(row), list(amounts))), True)

    def test_price(self):
        self.assertEqual((price_of((), ()), price_of((0, 3), (9, 0)), price_of([HUGE], [HUGE])), (0, 0, HUGE * HUGE))
        self.assertEqual(price_of((1, 2, 3), (4, 5, 6)), 32)

    def test_unlike(self):
        for many in range(6):
            if many != 4:
                for numbers in ((1,) * many, [1] * many):
                    for function, *arguments in ((with_adds, ROW, numbers), (cheapest, ROW, numbers, 0, 5),
                                                 (cheapest_amounts, ROW, numbers, 0, -5),
                                                 (price_of, numbers, (1,) * 4), (price_of, (1,) * 4, numbers)):
                        with self.subTest(many=many, function=function.__name__), self.assertRaises(Unlike):
                            function(*arguments)
        for function, *arguments in ((with_adds, (), ()), (cheapest, (), (), 0, 5), (price_of, (0,), ())):
            with self.assertRaises(Unlike):
                function(*arguments)


if __name__ == "__main__":
    unittest.main()
