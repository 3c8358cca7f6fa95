"""EVENTs that are lost, done twice or moved, against levels stepped one by one."""

import random
import unittest

from boundedlevels.errors import NoPlace
from boundedlevels.late import (
    doubled, doubled_matters, forgotten, lost_matters, moved, moved_alike, needless, thinned, without,
)
from boundedlevels.plain import is_row
from reckoning import HUGE, all_starts, end, every_row, listed, random_rows, stepped, stretch_fault

ROW = (("add", 5), ("cap", 10), ("add", -6), ("floor", 0), ("add", 1))


def gone(row, place):
    return tuple(event for at, event in enumerate(row) if at != place)


def twice(row, place, later):
    events = []
    for at, event in enumerate(row):
        events.append(event)
        if at == place + later:
            events.append(row[place])
    return tuple(events)


def put(row, place, goal):
    events = list(gone(row, place))
    events.insert(goal, row[place])
    return tuple(events)


def always_alike(row, other):
    return all(end(row, start) == end(other, start) for start in all_starts(row, other))


class Built(unittest.TestCase):
    def test_every_place_and_goal(self):
        for row in [ROW, (("cap", 3),), (("add", 1), ("add", 1)), *random_rows("built", 20, 9)]:
            for place in range(len(row)):
                self.assertEqual(without(row, place), gone(row, place))
                self.assertEqual(doubled(row, place), twice(row, place, 0))
                for goal in range(len(row)):
                    self.assertEqual(moved(row, place, goal), put(row, place, goal))
                    self.assertEqual(moved(row, place, goal)[goal], row[place])
                for later in range(len(row) - place):
                    self.assertEqual(doubled(row, place, later), twice(row, place, later))

    def test_sixty_events(self):
        row = tuple(("add", number) for number in range(60))
        self.assertEqual(without(row, 59), row[:59])
        self.assertEqual(doubled(row, 0, 59), (*row, ("add", 0)))
        self.assertEqual(moved(row, 59, 0), (("add", 59), *row[:59]))
        self.assertEqual(moved(row, 0, 59), (*row[1:], ("add", 0)))

    def test_rows_are_told_for_lists(self):
        row, one = listed(ROW), [["add", 1]]
        for told in (without(row, 1), doubled(row, 1, 2), moved(row, 1, 4), thinned(row), without(one, 0),
                     doubled(one, 0), moved(one, 0, 0), thinned(one), thinned([])):
            self.assertIs(is_row(told), True, told)


class Matters(unittest.TestCase):
    def check(self, row, other, stretch):
        fault = stretch_fault(stretch, all_starts(row, other), lambda start: end(row, start) != end(other, start))
        self.assertIsNone(fault, (row, other))

    def check_place(self, row, place, laters):
        self.check(row, gone(row, place), lost_matters(row, place))
        for later in laters:
            self.check(row, twice(row, place, later), doubled_matters(row, place, later))
        self.assertEqual(doubled_matters(row, place), doubled_matters(row, place, 0))

    def test_short_rows(self):
        rng = random.Random("short")
        for row in rng.sample(list(every_row(3, 2)), 400):
            for place in range(len(row)):
                self.check_place(row, place, range(len(row) - place))

    def test_longer_rows(self):
        for row in random_rows("matters", 120, 8):
            for place in range(len(row)):
                self.check_place(row, place, range(len(row) - place))

    def test_sixty_events(self):
        rng = random.Random("sixty")
        for row in random_rows("matters of sixty", 40, 60):
            for place in rng.sample(range(len(row)), min(4, len(row))):
                self.check_place(row, place, {0, rng.randrange(len(row) - place), len(row) - place - 1})

    def test_no_bound_and_no_start(self):
        self.assertEqual(lost_matters((("add", 1),), 0), (None, None))
        self.assertEqual(lost_matters((("add", -HUGE), ("add", HUGE)), 1), (None, None))
        self.assertIsNone(lost_matters((("add", 0),), 0))
        self.assertIsNone(lost_matters((("add", 5), ("floor", 3), ("cap", 3)), 0))
        self.assertEqual(lost_matters((("floor", HUGE),), 0), (None, HUGE - 1))
        self.assertEqual(lost_matters((("cap", -HUGE),), 0), (1 - HUGE, None))
        self.assertEqual(lost_matters((("add", 1), ("floor", 0)), 0), (0, None))
        self.assertEqual(lost_matters((("add", 1), ("floor", 0), ("cap", 5)), 0), (0, 4))
        self.assertEqual(doubled_matters((("add", HUGE),), 0), (None, None))
        self.assertIsNone(doubled_matters((("floor", HUGE),), 0))
        self.assertEqual(doubled_matters((("floor", 0), ("add", -HUGE)), 0, 1), (None, HUGE - 1))


class MovedAlike(unittest.TestCase):
    def check(self, row, place, goal):
        other = put(row, place, goal)
        fault = stretch_fault(moved_alike(row, place, goal), all_starts(row, other),
                              lambda start: end(row, start) == end(other, start))
        self.assertIsNone(fault, (row, place, goal))

    def test_short_rows(self):
        rng = random.Random("moved")
        for row in [*rng.sample(list(every_row(3, 2)), 300), *random_rows("moved", 60, 7)]:
            for place in range(len(row)):
                for goal in range(len(row)):
                    self.check(row, place, goal)

    def test_sixty_events(self):
        rng = random.Random("moved sixty")
        for row in random_rows("moved of sixty", 60, 60):
            for _ in range(4 if row else 0):
                self.check(row, rng.randrange(len(row)), rng.randrange(len(row)))

    def test_where_it_stands_all_is_alike(self):
        for place in range(len(ROW)):
            self.assertEqual(moved_alike(ROW, place, place), (None, None))

    def test_no_start(self):
        row = (("floor", 0), ("cap", 0), ("add", 1))
        self.assertIsNone(moved_alike(row, 2, 0))
        self.assertIsNone(moved_alike(row, 1, 2))
        self.assertIsNone(moved_alike((("floor", 9), ("cap", 4)), 0, 1))
        self.assertIsNone(moved_alike((("add", HUGE), ("floor", 0), ("cap", 4)), 0, 2))

    def test_one_start_and_open_ends(self):
        self.assertEqual(moved_alike((("add", HUGE), ("floor", 0), ("cap", HUGE)), 0, 2), (0, 0))
        self.assertEqual(moved_alike((("add", 2), ("cap", HUGE)), 0, 1), (None, HUGE - 2))
        self.assertEqual(moved_alike((("add", 2), ("floor", -HUGE)), 1, 0), (-HUGE, None))
        self.assertEqual(moved_alike((("floor", 4), ("cap", 9)), 0, 1), (None, None))


class Forgotten(unittest.TestCase):
    def check(self, row, place):
        moments = range(place + 1, len(row) + 1)
        there = {moment: row[:moment] for moment in moments}
        lost = {moment: gone(row[:moment], place) for moment in moments}
        for start in all_starts(row, gone(row, place)):
            with_it, without_it = stepped(row, start), stepped(gone(row, place), start)
            told = [moment for moment in moments if with_it[moment] == without_it[moment - 1]]
            self.assertEqual(forgotten(row, place, start), told[0] if told else None, (row, place, start))
        told = [moment for moment in moments if always_alike(there[moment], lost[moment])]
        self.assertEqual(forgotten(row, place), told[0] if told else None, (row, place))
        self.assertEqual(forgotten(row, place, None), forgotten(row, place))

    def test_drawn_rows(self):
        for row in random_rows("forgotten", 90, 8):
            for place in range(len(row)):
                self.check(row, place)

    def test_sixty_events(self):
        for row in random_rows("forgotten of sixty", 6, 60):
            for place in range(0, len(row), 17):
                self.check(row, place)

    def test_start_zero_is_a_start(self):
        row = (("add", -1), ("floor", 0))
        self.assertEqual([forgotten(row, 0, start) for start in (-1, 0, 1, None)], [2, 2, None, None])

    def test_at_once_and_at_the_end(self):
        self.assertEqual(forgotten((("add", 0),), 0), 1)
        self.assertEqual(forgotten((("add", 1), ("add", 0), ("add", 1)), 1), 2)
        self.assertEqual(forgotten((("cap", 0), ("add", 1)), 0, 0), 1)
        row = (("add", 1),) + (("add", 1),) * 57 + (("floor", HUGE), ("cap", HUGE))
        self.assertEqual(forgotten(row, 0), 60)
        self.assertEqual(forgotten(row, 0, 5), 59)
        self.assertIsNone(forgotten(row[:58], 0))


class Needless(unittest.TestCase):
    def places(self, row):
        return [place for place in range(len(row)) if always_alike(row, gone(row, place))]

    def test_drawn_rows(self):
        for row in [*random_rows("needless", 150, 7, (1, 2, 5)), *random_rows("needless", 30, 7)]:
            self.assertEqual(needless(row), self.places(row), row)
            left = row
            while self.places(left):
                left = gone(left, self.places(left)[0])
            self.assertEqual(thinned(row), left, row)

    def test_the_least_place_goes_first(self):
        self.assertEqual(thinned((("floor", 0), ("add", 0), ("floor", 0), ("cap", 9), ("cap", 9))),
                         (("floor", 0), ("cap", 9)))
        # Without the first floor the second one is needed; the other way about another ROW would be left.
        row = (("floor", 3), ("add", 2), ("floor", 5))
        self.assertEqual((needless(row), thinned(row)), ([0, 2], (("add", 2), ("floor", 5))))

    def test_sixty_events(self):
        self.assertEqual(needless((("add", 0),) * 60), list(range(60)))
        self.assertEqual(thinned((("add", 0),) * 60), ())
        self.assertEqual(thinned((("cap", HUGE), ("add", 0)) * 30), (("cap", HUGE),))
        self.assertEqual(needless((("add", 1),) * 60), [])
        self.assertEqual((needless(()), thinned(())), ([], ()))
        for row in random_rows("needless of sixty", 5, 60):
            self.assertEqual(needless(row), self.places(row), row)
            self.assertEqual(needless(thinned(row)), [], row)
            self.assertIs(always_alike(row, thinned(row)), True, row)


class NoPlaceThere(unittest.TestCase):
    ONE = (without, doubled, lost_matters, doubled_matters, forgotten,
           lambda row, place: moved(row, place, 0), lambda row, place: moved_alike(row, place, 0),
           lambda row, place: doubled(row, place, 1), lambda row, place: doubled_matters(row, place, 2),
           lambda row, place: forgotten(row, place, 3))

    def check(self, place, function, *arguments):
        with self.assertRaises(NoPlace) as caught:
            function(*arguments)
        self.assertEqual(caught.exception.place, place)

    def test_places(self):
        for row in (ROW, ROW[:1], (), listed(ROW)):
            for place in (-1, -len(row), -len(row) - 1, len(row), len(row) + 1, HUGE, -HUGE):
                if not 0 <= place < len(row):
                    for function in self.ONE:
                        self.check(place, function, row, place)

    def test_later_and_goal(self):
        for function in (doubled, doubled_matters):
            for place, later in ((4, 1), (0, 5), (2, 3), (1, HUGE)):
                self.check(place + later, function, ROW, place, later)
            # The place itself comes first, even if place + later is one, or is none either.
            for place, later in ((-1, 2), (5, 0), (7, 9), (-HUGE, HUGE)):
                self.check(place, function, ROW, place, later)
        for function in (moved, moved_alike):
            for place, goal in ((0, 5), (4, -1), (2, HUGE), (2, -HUGE)):
                self.check(goal, function, ROW, place, goal)
            for place, goal in ((5, 0), (-1, 9), (HUGE, -1), (-1, -1)):
                self.check(place, function, ROW, place, goal)
        self.assertEqual(doubled(ROW, 0, 4), (*ROW, ROW[0]))
        self.assertEqual(moved(ROW, 4, 0), (ROW[4], *ROW[:4]))


if __name__ == "__main__":
    unittest.main()
