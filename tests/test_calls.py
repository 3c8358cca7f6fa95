"""What holds of every function: names and places of arguments, lists for tuples, and that nothing is changed."""

import inspect
import random
import unittest

from boundedlevels import flows, heaps, late, leasts, needs, plain, readings, rounds, texts, units, ways, woven
from boundedlevels.desk import answers
from boundedlevels.errors import BadLine, BadText, Crossed, Gainsaid, NoPlace, NoShift, NoStarts, Unlike
from boundedlevels.ways import Way
from interface import (
    CLASSES, GUESS, INTERFACE, KINDS, LIMITS, OTHER, ROW, STREAMS, arguments_for, calls_of, interface, plainly,
)
from reckoning import HUGE, listed, random_row


def has_list(told):
    """Whether there is a list within a list or tuple, at any depth."""
    return any(isinstance(part, list) or isinstance(part, tuple) and has_list(part) for part in told)


class Interface(unittest.TestCase):
    def test_functions_stand_in_their_files_with_their_parameters(self):
        for module, text in INTERFACE.items():
            for name, parameters in calls_of(text):
                with self.subTest(name=name):
                    function = getattr(module, name)
                    self.assertTrue(inspect.isfunction(function))
                    self.assertEqual(str(inspect.signature(function)), f"({parameters})")
                    self.assertEqual((function.__module__, function.__name__), (module.__name__, name))

    def test_classes_have_their_methods_themselves(self):
        for kind, (module, methods, properties) in CLASSES.items():
            self.assertEqual((kind.__module__, kind.__bases__), (module.__name__, (object,)))
            for name, parameters in calls_of(methods):
                with self.subTest(kind=kind.__name__, name=name):
                    expected = f"(self, {parameters})" if parameters else "(self)"
                    self.assertEqual(str(inspect.signature(vars(kind)[name])), expected)
            for name in properties.split():
                with self.subTest(kind=kind.__name__, name=name):
                    self.assertIsInstance(vars(kind)[name], property)
                    self.assertIsNone(vars(kind)[name].fset)


class Calls(unittest.TestCase):
    def each(self):
        for function, names in interface():
            yield function, names, arguments_for(function, names)

    def test_by_place_and_by_name(self):
        for function, names, values in self.each():
            with self.subTest(function=function.__name__):
                by_place = function(*[values[name] for name in names])
                by_name = function(**{name: values[name] for name in reversed(names)})
                self.assertEqual(plainly(by_place), plainly(by_name))

    def test_way_by_place_and_by_name(self):
        self.assertEqual(plainly(Way(cap=9, floor=2, shift=-1)), plainly(Way(-1, 2, 9)))
        self.assertEqual(plainly(Way(4, cap=9)), plainly(Way(4, None, 9)))
        self.assertEqual(plainly(Way(shift=4)), plainly(Way(4, None, None)))
        self.assertEqual(Way(-1, 2, 9)(start=20), 9)

    def test_lists_for_tuples(self):
        for function, names, values in self.each():
            lists = {name: value if name == "thing" else listed(value) for name, value in values.items()}
            outer = {name: list(value) if isinstance(value, tuple) and name != "thing" else value
                     for name, value in values.items()}
            with self.subTest(function=function.__name__):
                self.assertEqual(plainly(function(**lists)), plainly(function(**values)))
                self.assertEqual(plainly(function(**outer)), plainly(function(**values)))

    def test_lists_for_tuples_where_it_is_open_which_one_is_told(self):
        rng = random.Random("open")
        for reach in (2, 9, HUGE):
            for _ in range(12):
                streams = tuple(random_row(rng, rng.randint(0, 4), reach) for _ in range(rng.randint(1, 3)))
                row, start = random_row(rng, rng.randint(0, 6), reach), rng.randint(-reach, reach)
                # Those in the middle hang on what is chosen on the way.
                ends = [end for end, _ in woven.ends_woven(streams, start)]
                calls = [(late.late_orders, row, most, start) for most in (1, 3)]
                calls += [(woven.weaving_to, streams, start, end) for end in ends]
                calls += [(function, streams, start) for function in
                          (woven.highest_weaving, woven.lowest_weaving, woven.quiet_weaving)]
                calls += [(woven.woven_parting, streams), (late.thinned, row), (late.late_ways, row, 2)]
                for function, *arguments in calls:
                    told = plainly(function(*arguments))
                    self.assertEqual(plainly(function(*listed(arguments))), told, (function.__name__, arguments))
                    self.assertEqual(plainly(function(*arguments)), told, (function.__name__, arguments))

    def test_lists_for_tuples_where_it_is_open_which_of_many_is_told(self):
        rng = random.Random("open, too")

        def numbers(many, reach):
            return tuple(rng.randint(-reach, reach) for _ in range(many))

        for reach in (1, 9, HUGE):
            for _ in range(15):
                row, start = random_row(rng, rng.randint(0, 6), reach), rng.randint(-reach, reach)
                steps = tuple(numbers(2, reach) for _ in range(rng.randint(0, 5)))
                deeds = tuple(random_row(rng, rng.randint(0, 3), reach) for _ in range(rng.randint(0, 4)))
                limits = tuple(tuple(sorted(numbers(2, reach))) for _ in range(rng.randint(1, 4)))
                levels = tuple(rng.randint(low, high) for low, high in limits)
                amounts, others = numbers(3, reach), numbers(2, reach)
                guess = tuple((word, *sorted(numbers(2, reach))) for word, _ in row)
                calls = [(function, row) for function in (heaps.highest_order, heaps.lowest_order)]
                calls += [(function, steps) for function in (heaps.highest_step_order, heaps.lowest_step_order)]
                calls += [(function, deeds, start) for function in (heaps.highest_deed_order, heaps.lowest_deed_order)]
                calls += [(flows.flow_parting, limits, amounts, others),
                          (flows.flow_start, limits, amounts, flows.flow(limits, levels, amounts)),
                          (readings.going, guess, (None, start), ((len(row), reach),)),
                          (readings.going, guess, (None, None), ()),
                          (needs.cheapest_amounts, row, tuple(map(abs, numbers(len(row) + 1, 2))), start, reach)]
                for function, *arguments in calls:
                    told = plainly(function(*arguments))
                    self.assertEqual(plainly(function(*listed(arguments))), told, (function.__name__, arguments))
                    self.assertEqual(plainly(function(*arguments)), told, (function.__name__, arguments))

    def test_default_arguments(self):
        for function in (late.doubled, late.doubled_matters):
            self.assertEqual(function(ROW, 1), function(ROW, 1, 0))
            self.assertEqual(function(row=ROW, place=1, later=1), function(ROW, 1, 1))
            self.assertEqual(function(ROW, later=2, place=0), function(ROW, 0, 2))
        self.assertEqual(late.forgotten(ROW, 0), late.forgotten(ROW, 0, None))
        self.assertEqual(late.forgotten(place=0, row=ROW, start=0), late.forgotten(ROW, 0, 0))
        self.assertNotEqual(late.forgotten(ROW, 0, -9), late.forgotten(ROW, 0))

    def test_lists_for_tuples_where_a_row_is_told_back(self):
        for row in ((), (("floor", 3),), (("add", 0),), (("cap", 4), ("floor", 4))):
            for low, high in ((0, 0), (3, 3), (-9, 9), (HUGE, HUGE)):
                with self.subTest(row=row, low=low, high=high):
                    told = leasts.least_within(listed(row), low, high)
                    self.assertEqual(plainly(told), plainly(leasts.least_within(row, low, high)))
                    self.assertTrue(plain.is_row(told))

    def test_arguments_are_not_changed(self):
        for function, names, values in self.each():
            for form in (lambda value: value, listed):
                given = {name: form(value) for name, value in values.items()}
                kept = plainly([given[name] for name in names])
                with self.subTest(function=function.__name__):
                    if function.__name__ != "is_parting":
                        function(**given)
                    self.assertEqual(plainly([given[name] for name in names]), kept)

    def test_the_same_call_tells_the_same(self):
        for function, names, values in self.each():
            with self.subTest(function=function.__name__):
                first = plainly(function(**values))
                for other, _, others in self.each():
                    other(**others)
                self.assertEqual(plainly(function(**values)), first)

    def test_returned_lists_are_new(self):
        way, constant = Way(-2, 3, 6), Way(None, 4, 4)
        calls = (
            lambda: ways.levels_of(ROW, 2), lambda: ways.levels_of((), 2), lambda: leasts.equal_starts(ROW, OTHER),
            lambda: leasts.equal_starts(ROW, ROW), lambda: leasts.equal_starts((), (("add", 1),)),
            lambda: leasts.least_rows(way), lambda: leasts.least_rows(constant), lambda: leasts.least_rows(Way(0)),
            lambda: late.needless(ROW), lambda: late.needless(()), lambda: late.needless(ROW * 2),
            lambda: late.lost_for(ROW, 2, 3, 2), lambda: late.lost_for(ROW, 2, 99, 2),
            lambda: late.lost_for((), 2, 2, 0), lambda: rounds.long_run(ROW, 2), lambda: rounds.long_run((), 2),
            lambda: woven.ends_woven(STREAMS, 4), lambda: woven.ends_woven(((),), 4),
            lambda: heaps.ends_heap(ROW, 2), lambda: heaps.ends_heap((), 2),
            lambda: flows.flow_moments(LIMITS, (1, 2, 0), (4, -3)), lambda: flows.flow_moments(LIMITS, (1, 2, 0), ()),
            lambda: readings.levels_by(GUESS, (0, 5), ()), lambda: readings.levels_by((), (0, 5), ()),
            lambda: readings.numbers_by(GUESS, (0, 5), ()), lambda: readings.numbers_by((), (0, 5), ()),
            lambda: texts.shown(ROW, 2), lambda: texts.shown((), 2), lambda: answers("names\nopen a 5"),
            lambda: answers("names"),
        )
        for call in calls:
            first = call()
            self.assertIs(type(first), list)
            kept = list(first)
            first.append("mine")
            first.reverse()
            self.assertEqual(call(), kept)

    def test_changed_arguments_change_no_result(self):
        row = [["add", 3], ["floor", 0]]
        way, rows = ways.way_of(row), leasts.least_rows(ways.way_of(row))
        row[0][1] = 99
        row.append(["cap", 1])
        self.assertEqual(plainly(way), plainly(Way(3, 0)))
        self.assertEqual(rows, [(("add", 3), ("floor", 0)), (("floor", -3), ("add", 3))])
        self.assertEqual(way(50), 53)
        self.assertEqual(ways.way_of(row)(50), 1)

    def test_kinds_of_results(self):
        for function, names, values in self.each():
            kinds = [kind for kind, told_by in KINDS.items() if function.__name__ in told_by.split()]
            self.assertEqual([type(function(**values))], kinds or [int], function.__name__)

    def test_tuples_within_lists_and_tuples(self):
        for function, names, values in self.each():
            told = function(**{name: value if name == "thing" else listed(value) for name, value in values.items()})
            if isinstance(told, (list, tuple)):
                with self.subTest(function=function.__name__):
                    self.assertFalse(has_list(told), told)

    def test_an_error_leaves_all_as_it_was(self):
        given = [Way(1), Way(2)]
        kept = list(given)
        with self.assertRaises(Unlike):
            ways.greatest_of(given)
        self.assertEqual(plainly(given), plainly(kept))
        for wrong, error in (((0, 5, 3), Crossed), ((None, 5, 3), Crossed), ((None, 5), NoShift)):
            with self.assertRaises(error):
                Way(*wrong)
        row, order, adds = listed(ROW), [0, 1], [1, 2]
        wrongs = (
            (NoStarts, leasts.least_within, row, 1, 0), (NoPlace, late.without, row, 4),
            (NoPlace, late.moved, row, 0, -1), (NoPlace, late.doubled, row, 3, 1), (NoPlace, late.forgotten, row, 9),
            (NoPlace, units.died_at, row, -1), (Unlike, late.in_order, row, order),
            (Crossed, late.held_end, adds, 1, 0, 5), (Gainsaid, late.surely_there, row, 2, 99, 2),
            (NoPlace, needs.adds_between, row, 5, 0, None, 9), (NoPlace, needs.floors_between, row, -1, 0, None, 9),
            (NoPlace, needs.caps_between, row, HUGE, 0, None, 9), (Unlike, needs.with_adds, row, adds),
            (Unlike, needs.price_of, adds, order[:1]), (Unlike, needs.cheapest, row, adds, 0, 9),
            (Unlike, needs.cheapest_amounts, row, adds, 0, 9), (Gainsaid, readings.Finder, 0, 3, 2, 6),
            (BadText, texts.row_in, "+5,"), (BadText, texts.way_in, "1 2"), (BadLine, answers, "names\n"),
        )
        for error, function, *arguments in wrongs:
            with self.assertRaises(error):
                function(*arguments)
        self.assertEqual((row, order, adds), (listed(ROW), [0, 1], [1, 2]))


if __name__ == "__main__":
    unittest.main()
