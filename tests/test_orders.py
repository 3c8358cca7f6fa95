"""Late orders, against all orders one by one, and additions that are held."""

import functools
import itertools
import math
import random
import unittest

from boundedlevels.errors import Crossed, Unlike
from boundedlevels.late import held_end, held_orders, how_many_late, in_order, is_late, late_orders, late_ways
from boundedlevels.plain import is_row
from boundedlevels.ways import Way
from reckoning import FAR, HUGE, end, every_bounds, listed, random_row, random_rows, turning_starts


def late(order, most):
    """Whether no place stands ahead of one that is less by more than most."""
    return all(order[at] - order[behind] <= most for at in range(len(order)) for behind in range(at, len(order)))


@functools.lru_cache(maxsize=None)
def late_in(many, most):
    """All late orders, ascending."""
    return [order for order in itertools.permutations(range(many)) if late(order, most)]


def counted(many, most):
    """How many late orders there are: by the places left, of which only the first few can be next."""
    @functools.lru_cache(maxsize=None)
    def count(left, first_behind):
        # left: those that are left below first_behind; all from there on are left, too.
        places = (*left, *range(first_behind, many))
        if not places:
            return 1
        total = 0
        for place in places[:most + 1]:
            if place - places[0] <= most:
                rest = tuple(other for other in places if other != place)
                bound = max(first_behind, place + 1)
                total += count(tuple(other for other in rest if other < bound), bound)
        return total
    return count((), 0)


def done(row, order):
    return tuple(row[place] for place in order)


def starts_of(rows):
    """Turning starts of each ROW by itself, and far ones."""
    return sorted({start for row in rows for start in turning_starts(row)} | set(FAR))


class InOrder(unittest.TestCase):
    def test_all_orders(self):
        row = (("add", 5), ("cap", 10), ("add", 5), ("floor", HUGE))
        for order in itertools.permutations(range(4)):
            told = in_order(row, order)
            self.assertEqual(told, done(row, order))
            self.assertEqual(in_order(listed(row), list(order)), told)
            self.assertIs(is_row(in_order(listed(row), list(order))), True)
        self.assertEqual(in_order((), ()), ())
        self.assertEqual(in_order([], []), ())

    def test_what_is_no_order(self):
        row = (("add", 1), ("cap", 2), ("floor", 3))
        wrongs = [(), (0,), (0, 1), (0, 1, 2, 3), (0, 1, 2, 2), (0, 0, 1), (1, 2, 3), (0, 1, 3), (-1, 0, 1),
                  (0, 1, -1), (2, 2, 2), (0, 1, HUGE), (0, 1, -HUGE), (True, 0, 2), (False, 1, 2), (0, 1, None),
                  (0, 1, "2"), (0, 1, (2,))]
        for wrong in wrongs:
            for order in (wrong, list(wrong)):
                with self.subTest(order=order), self.assertRaises(Unlike):
                    in_order(row, order)
        one = (("add", 1),)
        for row, order in (((), (0,)), (one, ()), (one, (1,)), (one, (False,)), (one, "0"), (one, 0), (one, None),
                           ((), ""), ((), None), ((), 0), ((), ((),))):
            with self.subTest(order=order), self.assertRaises(Unlike):
                in_order(row, order)

    def test_sixty_events(self):
        row = random_row(random.Random("order"), 60, HUGE)
        order = tuple(random.Random("sixty").sample(range(60), 60))
        self.assertEqual(in_order(row, order), done(row, order))
        with self.assertRaises(Unlike):
            in_order(row, order[:-1])


class IsLate(unittest.TestCase):
    def test_all_tuples_of_small_numbers(self):
        for many in range(5):
            for length in range(many + 2):
                for thing in itertools.product(range(-1, many + 1), repeat=length):
                    order = sorted(thing) == list(range(many))
                    for most in range(many + 2):
                        self.assertIs(is_late(thing, many, most), order and late(thing, most), (thing, many, most))

    def test_sixty_places(self):
        order = tuple(range(60))
        swapped = (*range(50), 59, *range(50, 59))
        for most in (0, 1, 8, 9, 60, HUGE):
            self.assertIs(is_late(order, 60, most), True)
            self.assertIs(is_late(order[::-1], 60, most), most >= 59)
            self.assertIs(is_late(swapped, 60, most), most >= 9)
            self.assertIs(is_late(order, 59, most), False)
            self.assertIs(is_late(list(order), 60, most), False)
        rng = random.Random("late")
        for _ in range(300):
            order = list(range(60))
            for _ in range(rng.randint(1, 40)):
                at = rng.randrange(59)
                order[at], order[at + 1] = order[at + 1], order[at]
            for most in range(9):
                self.assertIs(is_late(tuple(order), 60, most), late(order, most))


class HowMany(unittest.TestCase):
    def test_all_orders(self):
        for many in range(8):
            for most in range(9):
                self.assertEqual(how_many_late(many, most), len(late_in(many, most)), (many, most))

    def test_up_to_the_bounds(self):
        for many in (8, 20, 59, 60):
            for most in range(9):
                self.assertEqual(how_many_late(many, most), counted(many, most), (many, most))

    def test_known_numbers(self):
        one, two = 1, 1
        for many in range(1, 61):
            self.assertEqual((how_many_late(many, 0), how_many_late(many, 1)), (1, two))
            one, two = two, one + two
        for many in range(9):
            self.assertEqual(how_many_late(many, 8), math.factorial(many))
        self.assertEqual(how_many_late(10, 8), math.factorial(10) // 2)


def greatest_of_row(row, most, start):
    """The greatest end in all late orders, by the greatest level behind each choice of what is done."""
    levels = {(): start}
    for _ in row:
        following = {}
        for done_places, level in levels.items():
            left = [place for place in range(len(row)) if place not in done_places]
            for place in left:
                if place - left[0] <= most:
                    key = tuple(sorted((*done_places, place)))
                    reached = end((row[place],), level)
                    following[key] = max(reached, following.get(key, reached))
        levels = following
    return levels[tuple(range(len(row)))]


def turned(row):
    """The ROW for levels below 0 in place of those above it."""
    words = {"add": "add", "floor": "cap", "cap": "floor"}
    return tuple((words[word], -number) for word, number in row)


class LateWays(unittest.TestCase):
    def check(self, row, most):
        orders = late_in(len(row), most)
        rows = sorted({done(row, order) for order in orders})
        least, greatest = late_ways(row, most)
        for start in starts_of(rows):
            ends = [end(other, start) for other in rows]
            self.assertEqual((least(start), greatest(start)), (min(ends), max(ends)), (row, most, start))
        for start in random.Random(0).sample(starts_of(rows), 3):
            low, high = late_orders(row, most, start)
            for order, way in ((low, least), (high, greatest)):
                self.assertIn(order, orders)
                self.assertEqual(end(done(row, order), start), way(start), (row, most, start))

    def test_drawn_rows(self):
        rng = random.Random("late ways")
        for longest, count in ((3, 60), (5, 60), (6, 10)):
            for row in random_rows(f"late ways {longest}", count, longest):
                self.check(row, rng.randint(0, 2))
                self.check(row, rng.randint(0, 6))

    def test_kinds(self):
        told = late_ways((("add", 1), ("cap", 0)), 1)
        self.assertEqual((type(told), [type(way) for way in told]), (tuple, [Way, Way]))
        told = late_orders([["add", 1], ["cap", 0]], 1, 0)
        self.assertEqual((type(told), told), (tuple, ((0, 1), (1, 0))))
        self.assertEqual([way.text for way in late_ways((), 3)], ["0 - -", "0 - -"])
        self.assertEqual(late_orders((), 0, HUGE), ((), ()))

    def test_most_zero(self):
        for row in random_rows("most zero", 20, 16):
            least, greatest = late_ways(row, 0)
            self.assertEqual(least, greatest)
            for start in turning_starts(row):
                self.assertEqual(least(start), end(row, start))
            self.assertEqual(late_orders(row, 0, 5), (tuple(range(len(row))),) * 2)

    def test_greatest_bounds(self):
        rng = random.Random("sixteen")
        for reach in (3, 9, HUGE):
            for most in (2, 6):
                row = random_row(rng, 16, reach)
                least, greatest = late_ways(row, most)
                for start in (*rng.sample(turning_starts(row), 2), rng.choice(FAR)):
                    high, low = greatest_of_row(row, most, start), -greatest_of_row(turned(row), most, -start)
                    self.assertEqual((least(start), greatest(start)), (low, high), (row, most, start))
                    for order, told in zip(late_orders(row, most, start), (low, high)):
                        self.assertIs(sorted(order) == list(range(16)) and late(order, most), True, order)
                        self.assertEqual(end(done(row, order), start), told)


def kept_sums(adds, floor, cap, start):
    level = start
    for number in adds:
        level += number
        if floor is not None and level < floor:
            level = floor
        if cap is not None and level > cap:
            level = cap
    return level


class Held(unittest.TestCase):
    def test_end(self):
        rng = random.Random("held")
        for floor, cap in every_bounds(2):
            for _ in range(20):
                adds = tuple(rng.randint(-3, 3) for _ in range(rng.randint(0, 60)))
                for start in (-9, -2, 0, 1, 9):
                    for by in (1, HUGE):
                        bounds = [None if bound is None else bound * by for bound in (floor, cap)]
                        told = held_end(scaled_numbers(adds, by), *bounds, start * by)
                        self.assertEqual(told, by * kept_sums(adds, floor, cap, start))

    def test_the_start_is_not_held(self):
        self.assertEqual((held_end((), 0, 5, 9), held_end((), 0, 5, -9), held_end([], 3, 3, HUGE)), (9, -9, HUGE))
        self.assertEqual((held_end((0,), 0, 5, 9), held_end((0,), 0, 5, -9), held_end((-7,), 0, 5, 9)), (5, 0, 2))

    def test_crossed(self):
        for floor, cap in ((1, 0), (HUGE, -HUGE), (0, -1), (HUGE, HUGE - 1)):
            for adds in ((), (1, 2), [3]):
                with self.assertRaises(Crossed) as caught:
                    held_end(adds, floor, cap, 0)
                self.assertEqual((caught.exception.low, caught.exception.high), (floor, cap))
        self.assertEqual(held_end((4, 5), 3, 3, 0), 3)

    def test_orders_as_the_document_says(self):
        rng = random.Random("held orders")
        for _ in range(300):
            adds = tuple(rng.choice((-HUGE, -2, -1, 0, 0, 1, 2, HUGE)) for _ in range(rng.randint(0, 9)))
            most = rng.choice((0, 1, 2, 3, 8, 60, HUGE))
            places = range(len(adds))
            low = sorted(places, key=lambda place: (place + (most if adds[place] < 0 else 0), adds[place] < 0))
            high = sorted(places, key=lambda place: (place + (most if adds[place] > 0 else 0), adds[place] > 0))
            told = held_orders(adds, most)
            self.assertEqual(told, (tuple(low), tuple(high)), (adds, most))
            self.assertEqual(held_orders(list(adds), most), told)
            self.assertEqual([type(part) for part in (told, *told)], [tuple] * 3)

    def test_most_zero_and_beyond_the_length(self):
        self.assertEqual(held_orders((), 0), ((), ()))
        self.assertEqual(held_orders((), 7), ((), ()))
        self.assertEqual(held_orders((3, -1, 0, 2), 0), ((0, 1, 2, 3), (0, 1, 2, 3)))
        self.assertEqual(held_orders((3, -1, 0, 2), HUGE), ((0, 2, 3, 1), (1, 2, 0, 3)))
        self.assertEqual(held_orders((-1, 1), 1), ((1, 0), (0, 1)))
        self.assertEqual(held_orders((1, -1), 1), ((0, 1), (1, 0)))
        self.assertEqual(held_orders((-1, 0), 1), ((1, 0), (0, 1)))
        self.assertEqual(held_orders((1, 0), 1), ((0, 1), (1, 0)))

    def test_orders_among_all_late_orders(self):
        rng = random.Random("held among all")
        for many in range(7):
            for _ in range(12 if many < 6 else 4):
                adds = tuple(rng.randint(-3, 3) for _ in range(many))
                most = rng.randint(0, many + 1)
                self.check_among_all(adds, most)

    def check_among_all(self, adds, most):
        low, high = held_orders(adds, most)
        orders = late_in(len(adds), most)
        self.assertIn(low, orders)
        self.assertIn(high, orders)
        sums = sorted({done(adds, order) for order in orders})
        for floor, cap in every_bounds(2):
            for start in range(-2 if floor is None else floor, (2 if cap is None else cap) + 1):
                ends = [kept_sums(one, floor, cap, start) for one in sums]
                self.assertEqual(kept_sums(done(adds, low), floor, cap, start), min(ends), (adds, most, floor, cap))
                self.assertEqual(kept_sums(done(adds, high), floor, cap, start), max(ends), (adds, most, floor, cap))


def scaled_numbers(numbers, by):
    return tuple(number * by for number in numbers)


if __name__ == "__main__":
    unittest.main()
