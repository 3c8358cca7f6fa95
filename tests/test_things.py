"""is_event, is_row, and the thing of is_parting: True of exactly the values described."""

import unittest

from boundedlevels.leasts import is_parting
from boundedlevels.plain import is_event, is_row
from reckoning import HUGE, listed

EVENTS = (("add", 0), ("add", -7), ("floor", 3), ("cap", -3), ("add", 10 ** 400), ("floor", -(10 ** 41)),
          ("cap", HUGE))


def nested(thing, deep, make):
    for _ in range(deep):
        thing = make(thing)
    return thing


def odd_things():
    """Things that are neither an EVENT nor a ROW nor a number."""
    things = [
        None, True, False, "", "add", "floor", "cap", "add 5", "a", "5", [], [[]], [()], ((),), ([],), (((),),),
        ("add",), (5,), ("add", 5, 5), ("add", 5, None), (5, "add"), ("add", "add"), (5, 5), ("add", "5"),
        ("add", None), ("add", ""), ("add", True), ("floor", False), ("cap", True), ("add", (5,)), ("add", [5]),
        ("add", ()), ("Add", 5), ("ADD", 5), ("add ", 5), (" add", 5), ("", 5), ("ad", 5), ("adds", 5), ("min", 5),
        ("max", 5), ("sub", 5), ("a", "d"), (None, 5), (True, 5), (0, 5), (("add",), 5), (["add"], 5),
        ((("add", 5)), 5), ("floorcap", 1), ("addfloor", 1), (None, None), (True, False),
        ["add", 5], ["floor", 0], ["cap", -1], [("add", 5)], [["add", 5]], [("add", 5), ("cap", 3)],
        (["add", 5],), (("add", 5), ["cap", 3]), (("add", 5), None), (("add", 5), ()), (("add", 5), "cap"),
        (("add", 5), 5), (5, ("add", 5)), (("add", 5), ("cap", True)), (("add", False),), (("add", 5), ("max", 3)),
        (("add", 5), ("cap", 3, 3)), (("add", 5), ("cap",)), ((("add", 5),),), ((("add", 5), ("cap", 3)),),
        (("add", 5), (("cap", 3),)), (("add", 5), "add", 5), (("add", [5]),), ((["add"], 5),), ("add", ("add", 5)),
        (("add", 5), ("add", 5), ["add", 5]), (["add", 5], ("add", 5)), (None, ("add", 5)),
    ]
    for inner in (5, "add", True, None, (), [], ("add", 5), [["add", 5]], (("add", 5),)):
        for deep in range(1, 12):
            things.append(nested(inner, deep + 1, lambda thing: (thing,)))
            things.append(nested(inner, deep, lambda thing: [thing]))
            things.append(nested(inner, deep, lambda thing: ("add", thing)) if inner != 5 or deep > 1 else None)
            things.append(nested(inner, deep, lambda thing: (thing, 5)) if inner != "add" or deep > 1 else None)
    return things


class Things(unittest.TestCase):
    def test_events(self):
        for thing in EVENTS:
            with self.subTest(thing=thing):
                self.assertIs(is_event(thing), True)
                self.assertIs(is_event(listed(thing)), False)
                self.assertIs(is_row(thing), False)

    def test_rows(self):
        rows = [(), EVENTS, EVENTS * 20, (("add", 1),) * 61, (("cap", 0),) * 1000]
        rows += [(event,) for event in EVENTS] + [(event, other) for event in EVENTS for other in EVENTS]
        for thing in rows:
            with self.subTest(many=len(thing)):
                self.assertIs(is_row(thing), True)
                self.assertIs(is_row(list(thing)), False)
                self.assertIs(is_event(thing), False)
                self.assertIs(is_event(list(thing)), False)

    def test_one_wrong_event_anywhere(self):
        for many in (1, 2, 7, 61, 100):
            for place in (0, many // 2, many - 1):
                for wrong in (["add", 1], ("add", True), ("add", None), ("least", 1), (), None, "add", 1):
                    row = [("add", 1)] * many
                    row[place] = wrong
                    with self.subTest(many=many, place=place, wrong=wrong):
                        self.assertIs(is_row(tuple(row)), False)

    def test_all_else(self):
        for thing in odd_things():
            with self.subTest(thing=thing):
                self.assertIs(is_event(thing), False)
                self.assertIs(is_row(thing), False)
        for thing in (0, 1, -1, 5, HUGE, -(10 ** 50)):
            with self.subTest(thing=thing):
                self.assertIs(is_event(thing), False)
                self.assertIs(is_row(thing), False)

    def test_parting_things(self):
        row, other = (("add", 1),), (("floor", 3), ("add", 0))
        for thing in (3, 4, 1, 0, -5, 10 ** 50, -(10 ** 50)):
            with self.subTest(thing=thing):
                self.assertIs(is_parting(row, other, thing), True)
                self.assertIs(is_parting(row, row, thing), False)
        self.assertIs(is_parting(row, other, 2), False)
        # True and False would be starts that part, were they numbers.
        for thing in odd_things() + [row, other, EVENTS, [4], (4,), "4", True, False]:
            with self.subTest(thing=thing):
                self.assertIs(is_parting(row, other, thing), False)
                self.assertIs(is_parting(listed(row), listed(other), thing), False)


if __name__ == "__main__":
    unittest.main()
