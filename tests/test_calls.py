"""What holds of every function: names and places of arguments, lists for tuples, and that nothing is changed."""

import copy
import inspect
import unittest

from boundedlevels import leasts, plain, ways
from boundedlevels.errors import Crossed, NoShift, NoStarts, Unlike
from boundedlevels.ways import Way
from reckoning import HUGE, listed

INTERFACE = {
    plain: "is_event(thing), is_row(thing), end_of(row, start)",
    ways: "levels_of(row, start), way_of(row), starts_for(way, end), starts_between(way, low, high), "
          "nowhere_above(one, other), higher_start(one, other), greatest_of(ways), least_of(ways)",
    leasts: "alike(row, other), parting_start(row, other), is_parting(row, other, thing), equal_starts(row, other), "
            "least_rows(way), least_row(way), fewest_events(row), alike_within(row, other, low, high), "
            "parting_within(row, other, low, high), least_within(row, low, high), fewest_within(row, low, high)",
}
METHODS = {
    "__init__": "(self, shift, floor=None, cap=None)", "__call__": "(self, start)", "__rshift__": "(self, other)",
    "__mul__": "(self, times)", "__eq__": "(self, other)",
}

ROW = (("add", -5), ("floor", 0), ("add", 3), ("cap", 6))
OTHER = (("cap", 8), ("floor", 5), ("add", -1))
SHARED = {"row": ROW, "other": OTHER, "start": 2, "low": -3, "high": 9, "end": 4}


def interface():
    """(function, names of its parameters) for all that the interface lists."""
    calls = []
    for module, text in INTERFACE.items():
        for call in text.split("), "):
            name, _, names = call.rstrip(")").partition("(")
            calls.append((getattr(module, name), names.split(", ")))
    return calls


def arguments_for(function, names):
    """A dict of arguments for the function, new each time."""
    values = {name: copy.deepcopy(SHARED[name]) for name in names if name in SHARED}
    if function.__name__ in ("nowhere_above", "higher_start"):
        values = {"one": Way(3, 0, 5), "other": Way(2, 1, 9)}
    if "way" in names:
        values["way"] = Way(-2, 3, 6)
    if "ways" in names:
        values["ways"] = (Way(1, 0, 5), Way(None, 7, 7), Way(1, 2))
    if "thing" in names:
        values["thing"] = {"is_event": ("cap", 3), "is_row": ROW, "is_parting": 8}[function.__name__]
    return values


def plainly(value):
    """A value in which Ways are told by their texts, so that types are compared, too."""
    if isinstance(value, Way):
        return ("way", value.shift, value.floor, value.cap)
    if isinstance(value, (list, tuple)):
        return type(value)(plainly(part) for part in value)
    return (type(value).__name__, value)


class Interface(unittest.TestCase):
    def test_functions_stand_in_their_files_with_their_parameters(self):
        for function, names in interface():
            with self.subTest(function=function.__name__):
                self.assertTrue(inspect.isfunction(function))
                parameters = list(inspect.signature(function).parameters.values())
                self.assertEqual([parameter.name for parameter in parameters], names)
                for parameter in parameters:
                    self.assertIs(parameter.default, inspect.Parameter.empty)
        for module, text in INTERFACE.items():
            for call in text.split("), "):
                self.assertEqual(getattr(module, call.partition("(")[0]).__module__, module.__name__)

    def test_way_has_its_methods_itself(self):
        self.assertEqual(Way.__module__, "boundedlevels.ways")
        for name, signature in METHODS.items():
            with self.subTest(name=name):
                self.assertEqual(str(inspect.signature(vars(Way)[name])), signature)
        for name in ("shift", "floor", "cap", "text"):
            with self.subTest(name=name):
                self.assertIsInstance(vars(Way)[name], property)


class Calls(unittest.TestCase):
    def each(self):
        for function, names in interface():
            yield function, names, arguments_for(function, names)

    def test_by_place_and_by_name(self):
        for function, names, values in self.each():
            with self.subTest(function=function.__name__):
                by_place = function(*[values[name] for name in names])
                by_name = function(**{name: values[name] for name in reversed(names)})
                self.assertEqual(plainly(by_place), plainly(by_name))

    def test_way_by_place_and_by_name(self):
        self.assertEqual(plainly(Way(cap=9, floor=2, shift=-1)), plainly(Way(-1, 2, 9)))
        self.assertEqual(plainly(Way(4, cap=9)), plainly(Way(4, None, 9)))
        self.assertEqual(plainly(Way(shift=4)), plainly(Way(4, None, None)))
        self.assertEqual(Way(-1, 2, 9)(start=20), 9)

    def test_lists_for_tuples(self):
        for function, names, values in self.each():
            lists = {name: value if name == "thing" else listed(value) for name, value in values.items()}
            outer = {name: list(value) if isinstance(value, tuple) and name != "thing" else value
                     for name, value in values.items()}
            with self.subTest(function=function.__name__):
                self.assertEqual(plainly(function(**lists)), plainly(function(**values)))
                self.assertEqual(plainly(function(**outer)), plainly(function(**values)))

    def test_lists_for_tuples_where_a_row_is_told_back(self):
        for row in ((), (("floor", 3),), (("add", 0),), (("cap", 4), ("floor", 4))):
            for low, high in ((0, 0), (3, 3), (-9, 9), (HUGE, HUGE)):
                with self.subTest(row=row, low=low, high=high):
                    told = leasts.least_within(listed(row), low, high)
                    self.assertEqual(plainly(told), plainly(leasts.least_within(row, low, high)))
                    self.assertTrue(plain.is_row(told))

    def test_arguments_are_not_changed(self):
        for function, names, values in self.each():
            for form in (lambda value: value, listed):
                given = {name: form(value) for name, value in values.items()}
                kept = plainly([given[name] for name in names])
                with self.subTest(function=function.__name__):
                    if function.__name__ != "is_parting":
                        function(**given)
                    self.assertEqual(plainly([given[name] for name in names]), kept)

    def test_the_same_call_tells_the_same(self):
        for function, names, values in self.each():
            with self.subTest(function=function.__name__):
                first = plainly(function(**values))
                for other, _, others in self.each():
                    other(**others)
                self.assertEqual(plainly(function(**values)), first)

    def test_returned_lists_are_new(self):
        way, constant = Way(-2, 3, 6), Way(None, 4, 4)
        calls = (
            lambda: ways.levels_of(ROW, 2), lambda: ways.levels_of((), 2), lambda: leasts.equal_starts(ROW, OTHER),
            lambda: leasts.equal_starts(ROW, ROW), lambda: leasts.equal_starts((), (("add", 1),)),
            lambda: leasts.least_rows(way), lambda: leasts.least_rows(constant), lambda: leasts.least_rows(Way(0)),
        )
        for call in calls:
            first = call()
            self.assertIs(type(first), list)
            kept = list(first)
            first.append("mine")
            first.reverse()
            self.assertEqual(call(), kept)

    def test_changed_arguments_change_no_result(self):
        row = [["add", 3], ["floor", 0]]
        way, rows = ways.way_of(row), leasts.least_rows(ways.way_of(row))
        row[0][1] = 99
        row.append(["cap", 1])
        self.assertEqual(plainly(way), plainly(Way(3, 0)))
        self.assertEqual(rows, [(("add", 3), ("floor", 0)), (("floor", -3), ("add", 3))])
        self.assertEqual(way(50), 53)
        self.assertEqual(ways.way_of(row)(50), 1)

    def test_kinds_of_results(self):
        booleans = ("is_event", "is_row", "is_parting", "alike", "alike_within", "nowhere_above")
        for function, names, values in self.each():
            if function.__name__ in booleans:
                self.assertIs(type(function(**values)), bool, function.__name__)
        self.assertIs(type(ways.starts_for(Way(1), 4)), tuple)
        self.assertIs(type(leasts.least_row(Way(1))), tuple)

    def test_an_error_leaves_all_as_it_was(self):
        given = [Way(1), Way(2)]
        kept = list(given)
        with self.assertRaises(Unlike):
            ways.greatest_of(given)
        self.assertEqual(plainly(given), plainly(kept))
        for wrong, error in (((0, 5, 3), Crossed), ((None, 5, 3), Crossed), ((None, 5), NoShift)):
            with self.assertRaises(error):
                Way(*wrong)
        row = listed(ROW)
        with self.assertRaises(NoStarts):
            leasts.least_within(row, 1, 0)
        self.assertEqual(row, listed(ROW))


if __name__ == "__main__":
    unittest.main()
