"""What holds of every function: names and places of arguments, lists for tuples, and that nothing is changed."""

import copy
import inspect
import random
import unittest

from boundedlevels import late, leasts, plain, rounds, units, ways, woven
from boundedlevels.errors import Crossed, Gainsaid, NoPlace, NoShift, NoStarts, Unlike
from boundedlevels.ways import Way
from reckoning import HUGE, listed, random_row

INTERFACE = {
    plain: "is_event(thing), is_row(thing), end_of(row, start)",
    ways: "levels_of(row, start), way_of(row), starts_for(way, end), starts_between(way, low, high), "
          "nowhere_above(one, other), higher_start(one, other), greatest_of(ways), least_of(ways)",
    leasts: "alike(row, other), parting_start(row, other), is_parting(row, other, thing), equal_starts(row, other), "
            "least_rows(way), least_row(way), fewest_events(row), alike_within(row, other, low, high), "
            "parting_within(row, other, low, high), least_within(row, low, high), fewest_within(row, low, high)",
    late: "without(row, place), doubled(row, place, later=0), moved(row, place, goal), lost_matters(row, place), "
          "doubled_matters(row, place, later=0), moved_alike(row, place, goal), forgotten(row, place, start=None), "
          "needless(row), thinned(row), in_order(row, order), is_late(thing, many, most), how_many_late(many, most), "
          "late_ways(row, most), late_orders(row, most, start), held_end(adds, floor, cap, start), "
          "held_orders(adds, most), with_lost(row, start, most), lost_to_rise(row, start, goal), "
          "lost_to_sink(row, start, goal), lost_for(row, start, end, most), surely_there(row, start, end, most)",
    units: "lifted(row, start), cut(row, start), fate(row, unit), living(row), died_at(row, place), lifted_line(row), "
           "cut_line(row), top_start(row, level), bottom_start(row, level), safe_starts(row, low, high), "
           "reaches(row, start, level), falls_to(row, start, level), least_reaching(row, level), "
           "greatest_falling(row, level)",
    rounds: "stays(way), settles(way, start), rounds_up_to(way, start, level), rounds_down_to(way, start, level), "
            "forgets_after(way), meet_after(way, one, other), highest(row, start, times), lowest(row, start, times), "
            "rounds_within(row, start, low, high), long_run(row, start)",
    woven: "is_weaving(streams, thing), woven_row(streams, weaving), highest_woven(streams), lowest_woven(streams), "
           "highest_weaving(streams, start), lowest_weaving(streams, start), woven_parting(streams), "
           "is_woven_parting(streams, thing), ends_woven(streams, start), weaving_to(streams, start, end), "
           "many_quiet(streams, start), quiet_weaving(streams, start)",
}
METHODS = {
    "__init__": "(self, shift, floor=None, cap=None)", "__call__": "(self, start)", "__rshift__": "(self, other)",
    "__mul__": "(self, times)", "__eq__": "(self, other)",
}

ROW = (("add", -5), ("floor", 0), ("add", 3), ("cap", 6))
OTHER = (("cap", 8), ("floor", 5), ("add", -1))
STREAMS = ((("add", 5), ("cap", 6)), (("floor", 0), ("add", -4)))
SHARED = {
    "row": ROW, "other": OTHER, "start": 2, "low": -3, "high": 9, "end": 4, "place": 1, "later": 2, "goal": 3,
    "order": (2, 0, 3, 1), "many": 3, "most": 2, "adds": (4, -3, 2, -6), "floor": 0, "cap": 10, "unit": 4, "level": 3,
    "times": 5, "streams": STREAMS, "weaving": (1, 0, 0, 1), "ways": (Way(1, 0, 5), Way(None, 7, 7), Way(1, 2)),
}
THINGS = {
    "is_event": ("cap", 3), "is_row": ROW, "is_parting": 8, "is_late": (1, 0, 2), "is_weaving": (0, 1, 1, 0),
    "is_woven_parting": (4, (0, 0, 1, 1), (1, 1, 0, 0)),
}
# Those that tell a number stand in none of these.
KINDS = {
    bool: "is_event is_row is_parting alike alike_within nowhere_above is_late is_weaving is_woven_parting",
    list: "levels_of equal_starts least_rows needless lost_for long_run ends_woven",
    tuple: "starts_for starts_between least_row least_within without doubled moved lost_matters doubled_matters "
           "moved_alike thinned in_order late_ways late_orders held_orders with_lost surely_there living died_at "
           "lifted_line cut_line safe_starts stays settles woven_row highest_weaving lowest_weaving woven_parting "
           "weaving_to quiet_weaving",
    Way: "way_of greatest_of least_of highest_woven lowest_woven",
}
# What the others take does not fit these.
OWN = {
    "nowhere_above": {"one": Way(3, 0, 5), "other": Way(2, 1, 9)},
    "higher_start": {"one": Way(3, 0, 5), "other": Way(2, 1, 9)},
    "meet_after": {"one": 5, "other": 9},
    "doubled_matters": {"place": 0},
    "forgotten": {"place": 0, "start": -9},
    "least_reaching": {"level": 5},
    "rounds_within": {"start": 7, "low": 0},
    "lost_for": {"end": 3},
    "surely_there": {"end": 3},
    "weaving_to": {"start": 4, "end": 5},
    "quiet_weaving": {"start": 4},
}


def calls_of(text):
    """(name, parameters) of each function in a line of the interface."""
    return [call.rstrip(")").split("(") for call in text.split("), ")]


def interface():
    """(function, names of its parameters) for all that the interface lists."""
    calls = []
    for module, text in INTERFACE.items():
        for name, parameters in calls_of(text):
            calls.append((getattr(module, name), [part.split("=")[0] for part in parameters.split(", ")]))
    return calls


def arguments_for(function, names):
    """A dict of arguments for the function, new each time."""
    values = {name: copy.deepcopy(SHARED[name]) for name in names if name in SHARED}
    if "way" in names:
        values["way"] = Way(-2, 3, 6)
    if "thing" in names:
        values["thing"] = THINGS[function.__name__]
    return {**values, **OWN.get(function.__name__, {})}


def plainly(value):
    """A value in which Ways are told by their texts, so that types are compared, too."""
    if isinstance(value, Way):
        return ("way", value.shift, value.floor, value.cap)
    if isinstance(value, (list, tuple)):
        return type(value)(plainly(part) for part in value)
    return (type(value).__name__, value)


def has_list(told):
    """Whether there is a list within a list or tuple, at any depth."""
    return any(isinstance(part, list) or isinstance(part, tuple) and has_list(part) for part in told)


class Interface(unittest.TestCase):
    def test_functions_stand_in_their_files_with_their_parameters(self):
        for module, text in INTERFACE.items():
            for name, parameters in calls_of(text):
                with self.subTest(name=name):
                    function = getattr(module, name)
                    self.assertTrue(inspect.isfunction(function))
                    self.assertEqual(str(inspect.signature(function)), f"({parameters})")
                    self.assertEqual((function.__module__, function.__name__), (module.__name__, name))

    def test_way_has_its_methods_itself(self):
        self.assertEqual(Way.__module__, "boundedlevels.ways")
        for name, signature in METHODS.items():
            with self.subTest(name=name):
                self.assertEqual(str(inspect.signature(vars(Way)[name])), signature)
        for name in ("shift", "floor", "cap", "text"):
            with self.subTest(name=name):
                self.assertIsInstance(vars(Way)[name], property)


class Calls(unittest.TestCase):
    def each(self):
        for function, names in interface():
            yield function, names, arguments_for(function, names)

    def test_by_place_and_by_name(self):
        for function, names, values in self.each():
            with self.subTest(function=function.__name__):
                by_place = function(*[values[name] for name in names])
                by_name = function(**{name: values[name] for name in reversed(names)})
                self.assertEqual(plainly(by_place), plainly(by_name))

    def test_way_by_place_and_by_name(self):
        self.assertEqual(plainly(Way(cap=9, floor=2, shift=-1)), plainly(Way(-1, 2, 9)))
        self.assertEqual(plainly(Way(4, cap=9)), plainly(Way(4, None, 9)))
        self.assertEqual(plainly(Way(shift=4)), plainly(Way(4, None, None)))
        self.assertEqual(Way(-1, 2, 9)(start=20), 9)

    def test_lists_for_tuples(self):
        for function, names, values in self.each():
            lists = {name: value if name == "thing" else listed(value) for name, value in values.items()}
            outer = {name: list(value) if isinstance(value, tuple) and name != "thing" else value
                     for name, value in values.items()}
            with self.subTest(function=function.__name__):
                self.assertEqual(plainly(function(**lists)), plainly(function(**values)))
                self.assertEqual(plainly(function(**outer)), plainly(function(**values)))

    def test_lists_for_tuples_where_it_is_open_which_one_is_told(self):
        rng = random.Random("open")
        for reach in (2, 9, HUGE):
            for _ in range(12):
                streams = tuple(random_row(rng, rng.randint(0, 4), reach) for _ in range(rng.randint(1, 3)))
                row, start = random_row(rng, rng.randint(0, 6), reach), rng.randint(-reach, reach)
                # Those in the middle hang on what is chosen on the way.
                ends = [end for end, _ in woven.ends_woven(streams, start)]
                calls = [(late.late_orders, row, most, start) for most in (1, 3)]
                calls += [(woven.weaving_to, streams, start, end) for end in ends]
                calls += [(function, streams, start) for function in
                          (woven.highest_weaving, woven.lowest_weaving, woven.quiet_weaving)]
                calls += [(woven.woven_parting, streams), (late.thinned, row), (late.late_ways, row, 2)]
                for function, *arguments in calls:
                    told = plainly(function(*arguments))
                    self.assertEqual(plainly(function(*listed(arguments))), told, (function.__name__, arguments))
                    self.assertEqual(plainly(function(*arguments)), told, (function.__name__, arguments))

    def test_default_arguments(self):
        for function in (late.doubled, late.doubled_matters):
            self.assertEqual(function(ROW, 1), function(ROW, 1, 0))
            self.assertEqual(function(row=ROW, place=1, later=1), function(ROW, 1, 1))
            self.assertEqual(function(ROW, later=2, place=0), function(ROW, 0, 2))
        self.assertEqual(late.forgotten(ROW, 0), late.forgotten(ROW, 0, None))
        self.assertEqual(late.forgotten(place=0, row=ROW, start=0), late.forgotten(ROW, 0, 0))
        self.assertNotEqual(late.forgotten(ROW, 0, -9), late.forgotten(ROW, 0))

    def test_lists_for_tuples_where_a_row_is_told_back(self):
        for row in ((), (("floor", 3),), (("add", 0),), (("cap", 4), ("floor", 4))):
            for low, high in ((0, 0), (3, 3), (-9, 9), (HUGE, HUGE)):
                with self.subTest(row=row, low=low, high=high):
                    told = leasts.least_within(listed(row), low, high)
                    self.assertEqual(plainly(told), plainly(leasts.least_within(row, low, high)))
                    self.assertTrue(plain.is_row(told))

    def test_arguments_are_not_changed(self):
        for function, names, values in self.each():
            for form in (lambda value: value, listed):
                given = {name: form(value) for name, value in values.items()}
                kept = plainly([given[name] for name in names])
                with self.subTest(function=function.__name__):
                    if function.__name__ != "is_parting":
                        function(**given)
                    self.assertEqual(plainly([given[name] for name in names]), kept)

    def test_the_same_call_tells_the_same(self):
        for function, names, values in self.each():
            with self.subTest(function=function.__name__):
                first = plainly(function(**values))
                for other, _, others in self.each():
                    other(**others)
                self.assertEqual(plainly(function(**values)), first)

    def test_returned_lists_are_new(self):
        way, constant = Way(-2, 3, 6), Way(None, 4, 4)
        calls = (
            lambda: ways.levels_of(ROW, 2), lambda: ways.levels_of((), 2), lambda: leasts.equal_starts(ROW, OTHER),
            lambda: leasts.equal_starts(ROW, ROW), lambda: leasts.equal_starts((), (("add", 1),)),
            lambda: leasts.least_rows(way), lambda: leasts.least_rows(constant), lambda: leasts.least_rows(Way(0)),
            lambda: late.needless(ROW), lambda: late.needless(()), lambda: late.needless(ROW * 2),
            lambda: late.lost_for(ROW, 2, 3, 2), lambda: late.lost_for(ROW, 2, 99, 2),
            lambda: late.lost_for((), 2, 2, 0), lambda: rounds.long_run(ROW, 2), lambda: rounds.long_run((), 2),
            lambda: woven.ends_woven(STREAMS, 4), lambda: woven.ends_woven(((),), 4),
        )
        for call in calls:
            first = call()
            self.assertIs(type(first), list)
            kept = list(first)
            first.append("mine")
            first.reverse()
            self.assertEqual(call(), kept)

    def test_changed_arguments_change_no_result(self):
        row = [["add", 3], ["floor", 0]]
        way, rows = ways.way_of(row), leasts.least_rows(ways.way_of(row))
        row[0][1] = 99
        row.append(["cap", 1])
        self.assertEqual(plainly(way), plainly(Way(3, 0)))
        self.assertEqual(rows, [(("add", 3), ("floor", 0)), (("floor", -3), ("add", 3))])
        self.assertEqual(way(50), 53)
        self.assertEqual(ways.way_of(row)(50), 1)

    def test_kinds_of_results(self):
        for function, names, values in self.each():
            kinds = [kind for kind, told_by in KINDS.items() if function.__name__ in told_by.split()]
            self.assertEqual([type(function(**values))], kinds or [int], function.__name__)

    def test_tuples_within_lists_and_tuples(self):
        for function, names, values in self.each():
            told = function(**{name: value if name == "thing" else listed(value) for name, value in values.items()})
            if isinstance(told, (list, tuple)):
                with self.subTest(function=function.__name__):
                    self.assertFalse(has_list(told), told)

    def test_an_error_leaves_all_as_it_was(self):
        given = [Way(1), Way(2)]
        kept = list(given)
        with self.assertRaises(Unlike):
            ways.greatest_of(given)
        self.assertEqual(plainly(given), plainly(kept))
        for wrong, error in (((0, 5, 3), Crossed), ((None, 5, 3), Crossed), ((None, 5), NoShift)):
            with self.assertRaises(error):
                Way(*wrong)
        row, order, adds = listed(ROW), [0, 1], [1, 2]
        wrongs = (
            (NoStarts, leasts.least_within, row, 1, 0), (NoPlace, late.without, row, 4),
            (NoPlace, late.moved, row, 0, -1), (NoPlace, late.doubled, row, 3, 1), (NoPlace, late.forgotten, row, 9),
            (NoPlace, units.died_at, row, -1), (Unlike, late.in_order, row, order),
            (Crossed, late.held_end, adds, 1, 0, 5), (Gainsaid, late.surely_there, row, 2, 99, 2),
        )
        for error, function, *arguments in wrongs:
            with self.assertRaises(error):
                function(*arguments)
        self.assertEqual((row, order, adds), (listed(ROW), [0, 1], [1, 2]))


if __name__ == "__main__":
    unittest.main()
