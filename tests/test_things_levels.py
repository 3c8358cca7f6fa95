"""ORDERs, LIMITS, LEVELS, GUESSes and what goes with them: True of exactly the values described."""

import itertools
import unittest

from boundedlevels.flows import is_flow_parting, is_levels, is_limits
from boundedlevels.heaps import is_order
from boundedlevels.readings import goes_with, is_guess
from oddities import near_things, nested, odd_things
from reckoning import HUGE, listed

LIMITS = ((0, 2), (-1, 3))
GUESS = (("add", 1, 3), ("cap", 10, 10), ("floor", -2, HUGE))
PLAIN = [0, 1, -1, HUGE, 10 ** 400, (), (("add", 5),), (("add", 5), ("cap", 3))]


def bent(value):
    """Each value that is nested tuples of numbers and strings, but for one part somewhere in it."""
    for wrong in (None, True, False, "", "add", "1", (), [], (0,), [0], ("add", 1, 1), [value]):
        if not (wrong == value and type(wrong) is type(value)):
            yield wrong
    if isinstance(value, tuple):
        yield list(value)
        yield (value,)
        for place, part in enumerate(value):
            yield value[:place] + value[place + 1:]
            yield (*value[:place], part, *value[place:])
            for other in bent(part):
                yield (*value[:place], other, *value[place + 1:])


def deeply(value):
    """The value within tuples and within lists, down to twelve levels."""
    for deep in range(1, 11):
        yield nested(value, deep, lambda thing: (thing,))
        yield nested(value, deep, lambda thing: [thing])
        yield nested(value, deep, lambda thing: (thing, thing) if deep < 4 else (thing, 0))


class Orders(unittest.TestCase):
    def test_orders(self):
        for thing in [*odd_things(), *PLAIN]:
            for many in (*range(8), 60, 61, HUGE):
                self.assertIs(is_order(many, thing), many == 0 and thing == () and isinstance(thing, tuple))
        for thing in near_things((0, 2, 1)):
            self.assertIs(is_order(3, thing), False, thing)
        for many in (0, 1, 2, 60, 61, 300):
            self.assertIs(is_order(many, tuple(range(many))[::-1]), True)
            self.assertIs(is_order(many, list(range(many))), False)
            self.assertIs(is_order(many + 1, tuple(range(many))), False)
        self.assertEqual([is_order(1, (False,)), is_order(2, (0, True)), is_order(1, ("0",)), is_order(0, None)],
                         [False] * 4)
        for thing in ((True,), (None,), "0", (0, "1"), ((0,), (1,)), (0, (1,)), (0, [1]), (0, None)):
            for many in range(3):
                self.assertIs(is_order(many, thing), False)


def right_limits(thing):
    """Whether thing is LIMITS, told another way."""
    if type(thing) is not tuple or thing == ():
        return False
    return all(type(pair) is tuple and [type(part) for part in pair] == [int, int] and pair[0] <= pair[1]
               for pair in thing)


class Limits(unittest.TestCase):
    def test_limits(self):
        for thing in (LIMITS, ((0, 0),), ((-HUGE, HUGE),), ((0, 1),) * 9, ((0, 1),) * 300, ((-10 ** 400, 10 ** 400),)):
            self.assertIs(is_limits(thing), True)
            self.assertIs(is_limits(list(thing)), False)
            self.assertIs(is_limits(listed(thing)), False)
            self.assertIs(is_limits(tuple(list(pair) for pair in thing)), False)
            for place in (0, len(thing) // 2, len(thing) - 1):
                for wrong in ((1, 0), [0, 1], (0,), (0, 1, 2), (0, None), (None, None), (0, True), 5, (), ("0", "1")):
                    self.assertIs(is_limits((*thing[:place], wrong, *thing[place + 1:])), False, wrong)

    def test_all_else(self):
        for thing in [*odd_things(), *PLAIN, *bent(LIMITS), *deeply(LIMITS), *deeply(3), *deeply((0, 2))]:
            self.assertIs(is_limits(thing), right_limits(thing), thing)
        self.assertEqual([is_limits(()), is_limits(((2, 0),)), is_limits((0, 2)), is_limits(((True, 2),))], [False] * 4)

    def test_levels(self):
        for thing in itertools.product(range(-2, 5), repeat=2):
            right = 0 <= thing[0] <= 2 and -1 <= thing[1] <= 3
            self.assertIs(is_levels(LIMITS, thing), right)
            self.assertIs(is_levels(listed(LIMITS), thing), right)
            self.assertIs(is_levels(LIMITS, list(thing)), False)
        wide = ((-5, 5), (-5, 5))
        for limits in (LIMITS, wide, ((0, 9),), ((0, 9),) * 3, ((-HUGE, HUGE),) * 2):
            for thing in [*odd_things(), *PLAIN, *bent((1, 1)), *deeply((1, 1)), *deeply(1)]:
                right = (type(thing) is tuple and len(thing) == len(limits)
                         and all(type(part) is int and low <= part <= high for part, (low, high) in zip(thing, limits)))
                self.assertIs(is_levels(limits, thing), right, (limits, thing))
        # Beyond the bounds, too.
        self.assertIs(is_levels(((0, 10 ** 60),) * 40, (10 ** 50,) * 40), True)
        self.assertIs(is_levels(((0, 10 ** 60),) * 40, (10 ** 50,) * 39), False)
        self.assertEqual([is_levels(((0, 1),), (True,)), is_levels(((0, 1),), (False,)), is_levels(((0, 1),), (1,))],
                         [False, False, True])

    def test_flow_partings(self):
        limits, amounts, others = ((0, 2), (0, 3)), (4, -4), (-4,)
        self.assertIs(is_flow_parting(limits, amounts, others, (1, 1)), True)
        for thing in [*odd_things(), *PLAIN, *bent((1, 1)), *deeply((1, 1)), (2, 3), (3, 3), (-1, 0), (1, 4), (1, -1),
                      (1,), (1, 1, 1), [1, 1], ([1], [1]), (1, "1"), (1, None), (True, True), (1, True), (0, False)]:
            self.assertIs(is_flow_parting(limits, amounts, others, thing), False, thing)
            self.assertIs(is_flow_parting(listed(limits), [4, -4], [-4], thing), False)
        self.assertIs(is_flow_parting(((0, 10 ** 50),) * 20, (1,), (2,), (5,) * 20), True)


def right_guess(thing):
    """Whether thing is a GUESS, told another way."""
    return type(thing) is tuple and all(
        type(triple) is tuple and [type(part) for part in triple] == [str, int, int]
        and triple[0] in ("add", "floor", "cap") and triple[1] <= triple[2] for triple in thing)


class Guesses(unittest.TestCase):
    def test_guesses(self):
        for thing in ((), GUESS, GUESS[:1], GUESS * 14, GUESS * 100, (("floor", -10 ** 400, 10 ** 400),)):
            self.assertIs(is_guess(thing), True)
            self.assertIs(is_guess(list(thing)), False)
            self.assertIs(is_guess(listed(thing)), False)
            self.assertIs(is_guess(tuple(list(triple) for triple in thing)), thing == ())
        for wrong in (("add", 1, 0), ("add", 1), ("add", 1, 1, 1), ["add", 1, 1], ("max", 1, 1), ("Add", 1, 1),
                      ("", 1, 1), (1, 1, 1), (None, 1, 1), ("add", True, 1), ("add", 0, True), ("add", 1, None),
                      ("add", None, None), ("add", "1", "1"), ("add", (1, 1)), (("add",), 1, 1), (["add"], 1, 1),
                      ("addfloor", 1, 1), ("add", 1, HUGE, ()), (), None, "add", 1, True):
            for many in (1, 41, 200):
                for place in (0, many // 2, many - 1):
                    thing = [("add", 1, 1)] * many
                    thing[place] = wrong
                    self.assertIs(is_guess(tuple(thing)), False, wrong)

    def test_all_else(self):
        for thing in [*odd_things(), *PLAIN, *bent(GUESS), *deeply(GUESS), *deeply(("add", 1, 3)), *deeply("cap")]:
            self.assertIs(is_guess(thing), right_guess(thing), thing)

    def test_pairs(self):
        guess, starts, readings = (("add", 1, 3), ("cap", 10, 10)), (0, 20), ((2, 10),)
        pair = (8, (("add", 3), ("cap", 10)))
        self.assertIs(goes_with(guess, starts, readings, pair), True)
        self.assertIs(goes_with(listed(guess), [0, 20], [[2, 10]], pair), True)
        right = [thing for thing in bent(pair) if goes_with(guess, starts, readings, thing)]
        self.assertEqual(right, [])
        for thing in [*odd_things(), *PLAIN, *deeply(pair), list(pair), listed(pair), (8, list(pair[1])),
                      (8, (["add", 3], ("cap", 10))), (8, pair[1], ()), (8,), pair[1], (pair[1], 8), (pair, pair[1]),
                      (21, pair[1]), (-1, pair[1]), (6, pair[1]), (True, pair[1]), (8, ()), (8, pair[1][:1]),
                      (8, (("add", 4), ("cap", 10))), (8, (("add", 3), ("cap", 9))), (8, (("cap", 3), ("cap", 10))),
                      (8, (("add", True), ("cap", 10))), (9, (("add", True), ("cap", 10))), (8, None), (8, 8)]:
            self.assertIs(goes_with(guess, starts, readings, thing), False, thing)

    def test_pairs_with_true_for_one(self):
        # Were True and False numbers, they would be starts and numbers that go with all.
        guess = (("add", 0, 1),)
        for start, number in itertools.product((0, 1, True, False), repeat=2):
            self.assertIs(goes_with(guess, (None, None), (), (start, (("add", number),))),
                          type(start) is int and type(number) is int)
        self.assertIs(goes_with((), (None, None), (), (10 ** 50, ())), True)
        self.assertIs(goes_with((), (None, None), (), (None, ())), False)
        # Beyond the bounds, too.
        many = (("add", 0, 1),) * 100
        self.assertIs(goes_with(many, (0, 0), ((100, 100),) * 90, (0, (("add", 1),) * 100)), True)
        self.assertIs(goes_with(many, (0, 0), ((100, 100),) * 90, (0, (("add", 1),) * 99)), False)


if __name__ == "__main__":
    unittest.main()
