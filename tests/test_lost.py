"""What can be if some EVENTs are lost, against all sets of places."""

import itertools
import random
import unittest

from boundedlevels.errors import Gainsaid
from boundedlevels.late import lost_for, lost_to_rise, lost_to_sink, surely_there, with_lost
from reckoning import HUGE, end, listed, random_row, random_rows, scaled


def sets_of(many, most):
    """All sets of at most so many places, those with fewer first, then ascending."""
    return [places for size in range(min(many, most) + 1) for places in itertools.combinations(range(many), size)]


def end_without(row, start, lost):
    return end([event for place, event in enumerate(row) if place not in lost], start)


def ends_by_lost(row, start):
    """At k the set of all ends with at most k EVENTs lost, found with all levels there can be on the way."""
    reached = [{start} for _ in range(len(row) + 1)]
    for event in row:
        kept = [{end((event,), level) for level in levels} for levels in reached]
        reached = [levels | (reached[most - 1] if most else set()) for most, levels in enumerate(kept)]
    return reached


STARTS = (-HUGE, -3, 0, 1, 2, 10 ** 40)


class SomeLost(unittest.TestCase):
    def check(self, row, start, mosts, ends):
        for most in mosts:
            few = ends[min(most, len(row))]
            told = with_lost(row, start, most)
            self.assertEqual(told, (min(few), max(few)), (row, start, most))
            self.assertIs(type(told), tuple)
        goals = {goal + step for few in ends for goal in (min(few), max(few)) for step in (-1, 0, 1)}
        for goal in sorted(goals | {-10 ** 45, 10 ** 45})[:60]:
            rise = [most for most, few in enumerate(ends) if max(few) >= goal]
            sink = [most for most, few in enumerate(ends) if min(few) <= goal]
            self.assertEqual(lost_to_rise(row, start, goal), rise[0] if rise else None, (row, start, goal))
            self.assertEqual(lost_to_sink(row, start, goal), sink[0] if sink else None, (row, start, goal))

    def test_all_sets_of_drawn_rows(self):
        for row in random_rows("lost", 60, 8):
            for start in STARTS:
                ends = [{end_without(row, start, lost) for lost in sets_of(len(row), most)}
                        for most in range(len(row) + 1)]
                self.assertEqual(ends, ends_by_lost(row, start))
                self.check(row, start, range(len(row) + 3), ends)

    def test_sixty_events(self):
        rng = random.Random("lost of sixty")
        for by in (1, HUGE):
            for _ in range(4):
                row, start = random_row(rng, 60, 4), rng.randint(-9, 9)
                ends = [{level * by for level in levels} for levels in ends_by_lost(row, start)]
                self.check(scaled(row, by), start * by, (0, 1, 2, 7, 30, 59, 60, 61, HUGE), ends)

    def test_most_zero_and_more_than_there_are(self):
        row = (("add", -10), ("floor", 0), ("add", 5), ("add", -3))
        self.assertEqual(with_lost(row, 0, 0), (2, 2))
        self.assertEqual(with_lost(row, 0, HUGE), with_lost(row, 0, 4))
        self.assertEqual((with_lost((), HUGE, 0), with_lost((), HUGE, 5)), ((HUGE, HUGE),) * 2)
        self.assertEqual((lost_to_rise((), 5, 5), lost_to_rise((), 5, 6), lost_to_sink((), 5, 5)), (0, None, 0))
        self.assertEqual((lost_to_rise(row, 0, 2), lost_to_rise(row, 0, 3), lost_to_sink(row, 0, 2)), (0, 1, 0))
        self.assertIsNone(lost_to_sink((("floor", 3),), 5, 4))

    def test_what_is_lost_can_be_lost_together_alone(self):
        row = (("cap", -HUGE), ("cap", -HUGE), ("cap", -HUGE))
        self.assertEqual([lost_to_rise(row, 0, goal) for goal in (-HUGE, 1 - HUGE, 0, 1)], [0, 3, 3, None])
        self.assertEqual([with_lost(row, 0, most)[1] for most in range(5)], [-HUGE, -HUGE, -HUGE, 0, 0])


class LostFor(unittest.TestCase):
    def check(self, row, start, goal, most):
        sets = [lost for lost in sets_of(len(row), most) if end_without(row, start, lost) == goal]
        told = lost_for(row, start, goal, most)
        self.assertEqual(told, sets, (row, start, goal, most))
        self.assertEqual((type(told), {type(lost) for lost in told} - {tuple}), (list, set()))
        if sets:
            there = tuple(place for place in range(len(row)) if all(place not in lost for lost in sets))
            told = surely_there(row, start, goal, most)
            self.assertEqual(told, there, (row, start, goal, most))
            self.assertIs(type(told), tuple)
        else:
            with self.assertRaises(Gainsaid):
                surely_there(row, start, goal, most)
        return bool(sets)

    def check_row(self, row, start):
        found = 0
        for most in range(4):
            goals = {end_without(row, start, lost) for lost in sets_of(len(row), most)}
            for goal in sorted(goals | {end(row, start), start, 10 ** 45})[:25]:
                found += self.check(row, start, goal, most)
        return found

    def test_drawn_rows(self):
        found = 0
        for row in random_rows("lost for", 40, 7):
            for start in (-2, 0, HUGE):
                found += self.check_row(row, start)
        self.assertGreater(found, 1000)

    def test_twenty_events(self):
        rng = random.Random("twenty")
        for reach in (1, 4, HUGE):
            row = random_row(rng, 20, reach)
            start = rng.randint(-reach, reach)
            goals = sorted({end_without(row, start, lost) for lost in sets_of(20, 3)})
            for goal in (end(row, start), goals[0], goals[-1], goals[len(goals) // 2], goals[-1] + 1):
                self.check(row, start, goal, 3)
        self.assertEqual(len(lost_for((("add", 0),) * 20, 0, 0, 3)), 1 + 20 + 190 + 1140)

    def test_the_order_of_the_sets(self):
        self.assertEqual(lost_for((("add", 0),) * 3, 4, 4, 3),
                         [(), (0,), (1,), (2,), (0, 1), (0, 2), (1, 2), (0, 1, 2)])
        self.assertEqual(lost_for((("add", 0),) * 3, 4, 4, 1), [(), (0,), (1,), (2,)])
        self.assertEqual(lost_for((("add", 0), ("add", 1)), HUGE, HUGE, 3), [(1,), (0, 1)])
        self.assertEqual(lost_for((), 4, 4, 3), [()])
        self.assertEqual(lost_for((), 4, 5, 3), [])
        self.assertEqual(lost_for((("add", 1),), 4, 5, 0), [()])
        self.assertEqual(lost_for(listed((("add", 0), ("add", 1))), 0, 0, 2), [(1,), (0, 1)])

    def test_surely_there(self):
        self.assertEqual(surely_there((), 4, 4, 0), ())
        self.assertEqual(surely_there((("add", 1), ("add", 2)), 0, 3, 2), (0, 1))
        self.assertEqual(surely_there((("add", 1), ("add", 2)), 0, 0, 2), ())
        for row, start, goal, most in (((), 4, 5, 3), ((("add", 1),), 0, 0, 0), ((("add", HUGE),), 0, 1, 3)):
            with self.assertRaises(Gainsaid):
                surely_there(row, start, goal, most)


if __name__ == "__main__":
    unittest.main()
