"""Each function with a thing: True of exactly the values described."""

import itertools
import unittest

from boundedlevels.late import is_late
from boundedlevels.leasts import is_parting
from boundedlevels.plain import is_event, is_row
from boundedlevels.woven import is_weaving, is_woven_parting
from oddities import near_things, odd_things
from reckoning import HUGE, end, listed

EVENTS = (("add", 0), ("add", -7), ("floor", 3), ("cap", -3), ("add", 10 ** 400), ("floor", -(10 ** 41)),
          ("cap", HUGE))


class Things(unittest.TestCase):
    def test_events(self):
        for thing in EVENTS:
            with self.subTest(thing=thing):
                self.assertIs(is_event(thing), True)
                self.assertIs(is_event(listed(thing)), False)
                self.assertIs(is_row(thing), False)

    def test_rows(self):
        rows = [(), EVENTS, EVENTS * 20, (("add", 1),) * 61, (("cap", 0),) * 1000]
        rows += [(event,) for event in EVENTS] + [(event, other) for event in EVENTS for other in EVENTS]
        for thing in rows:
            with self.subTest(many=len(thing)):
                self.assertIs(is_row(thing), True)
                self.assertIs(is_row(list(thing)), False)
                self.assertIs(is_event(thing), False)
                self.assertIs(is_event(list(thing)), False)

    def test_one_wrong_event_anywhere(self):
        for many in (1, 2, 7, 61, 100):
            for place in (0, many // 2, many - 1):
                for wrong in (["add", 1], ("add", True), ("add", None), ("least", 1), (), None, "add", 1):
                    row = [("add", 1)] * many
                    row[place] = wrong
                    with self.subTest(many=many, place=place, wrong=wrong):
                        self.assertIs(is_row(tuple(row)), False)

    def test_all_else(self):
        for thing in odd_things():
            with self.subTest(thing=thing):
                self.assertIs(is_event(thing), False)
                self.assertIs(is_row(thing), False)
        for thing in (0, 1, -1, 5, HUGE, -(10 ** 50)):
            with self.subTest(thing=thing):
                self.assertIs(is_event(thing), False)
                self.assertIs(is_row(thing), False)

    def test_parting_things(self):
        row, other = (("add", 1),), (("floor", 3), ("add", 0))
        for thing in (3, 4, 1, 0, -5, 10 ** 50, -(10 ** 50)):
            with self.subTest(thing=thing):
                self.assertIs(is_parting(row, other, thing), True)
                self.assertIs(is_parting(row, row, thing), False)
        self.assertIs(is_parting(row, other, 2), False)
        # True and False would be starts that part, were they numbers.
        for thing in odd_things() + [row, other, EVENTS, [4], (4,), "4", True, False]:
            with self.subTest(thing=thing):
                self.assertIs(is_parting(row, other, thing), False)
                self.assertIs(is_parting(listed(row), listed(other), thing), False)

    def test_late_things(self):
        # Each number of events that an odd thing could be an order of, and the least and the greatest most.
        for thing in [*odd_things(), EVENTS, 0, 1, HUGE]:
            for many in (*range(8), 12, 60):
                for most in (0, 8, HUGE):
                    self.assertIs(is_late(thing, many, most), False, (thing, many))
        for thing in near_things((0, 2, 1)):
            self.assertIs(is_late(thing, 3, 1), False, thing)
            self.assertIs(is_late(thing, 3, HUGE), False, thing)
        for many in (0, 1, 2, 61, 300):
            order = tuple(range(many))
            self.assertIs(is_late(order, many, 0), True)
            self.assertIs(is_late(list(order), many, 0), False)
            self.assertIs(is_late(order, many + 1, 0), False)
            self.assertIs(is_late((*order, many), many, HUGE), False)
        self.assertIs(is_late((True,), 1, 1), False)
        self.assertIs(is_late((False,), 1, 1), False)
        self.assertIs(is_late((0, True), 2, 1), False)
        self.assertIs(is_late((-1, 0), 2, 1), False)

    def test_weaving_things(self):
        events = (("add", 1),)
        for streams in (((),), ((), ()), (events,), (events * 2,), (events, events), (events, events * 2, events)):
            for thing in [*odd_things(), EVENTS, 0, 1, HUGE]:
                self.assertIs(is_weaving(streams, thing), False, (streams, thing))
        streams = (events, events, events * 2)
        self.assertIs(is_weaving(streams, (0, 2, 1, 2)), True)
        for thing in near_things((0, 2, 1, 2)):
            self.assertIs(is_weaving(streams, thing), False, thing)
        self.assertIs(is_weaving(((),), ()), True)
        self.assertIs(is_weaving(((),), []), False)
        self.assertIs(is_weaving((events,), (False,)), False)
        self.assertIs(is_weaving(((), events), (True,)), False)
        # Beyond the bounds, too.
        self.assertIs(is_weaving((events * 100,) * 4, (0, 1, 2, 3) * 100), True)
        self.assertIs(is_weaving((events * 100,) * 4, (0, 1, 2, 4) * 100), False)

    def test_woven_parting_things(self):
        streams = ((("add", 5), ("cap", 6)), (("floor", 0), ("add", -4)))
        one, other = (0, 0, 1, 1), (1, 1, 0, 0)
        self.assertIs(is_woven_parting(streams, (4, one, other)), True)
        self.assertIs(is_woven_parting(streams, (0, one, other)), False)
        for thing in [*odd_things(), EVENTS, 0, 4, HUGE, (), one, (one, other), (4, one), (4, one, other, other),
                      [4, one, other], (4, list(one), other), (4, one, list(other)), (4, (one, other)),
                      ((4,), one, other), (None, one, other), ("4", one, other), (one, other, 4), (4, one, one),
                      (4, other, other), (4, one, ()), (4, (), ()), (4, one, None), (4, 0, 1), (4, one, (0, 1, 0)),
                      (4, one, (1, True, 0, 0)), (4, (False, 0, 1, 1), other), ((4, one, other),), (4, one, 5),
                      ((4, one, other), one, other), [(4, one, other)], (4, (one,), (other,)), (True, False, None)]:
            self.assertIs(is_woven_parting(streams, thing), False, thing)
        # Were True and False numbers, they would be starts that part here.
        streams = ((("add", 1), ("floor", 9)), (("cap", -9),))
        one, other = (0, 0, 1), (0, 1, 0)
        self.assertEqual([is_woven_parting(streams, (start, one, other)) for start in (0, 1, True, False, None)],
                         [True, True, False, False, False])
        for start, first, second in itertools.product((0, HUGE, -(10 ** 50)), ((0, 0, 1), (0, 1, 0), (1, 0, 0)),
                                                      ((0, 0, 1), (0, 1, 0), (1, 0, 0))):
            rows = [[streams[at][weaving[:k].count(at)] for k, at in enumerate(weaving)] for weaving in (first, second)]
            self.assertIs(is_woven_parting(streams, (start, first, second)),
                          end(rows[0], start) != end(rows[1], start))
        self.assertIs(is_woven_parting(((),), (0, (), ())), False)


if __name__ == "__main__":
    unittest.main()
