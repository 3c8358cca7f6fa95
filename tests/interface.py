"""What the interface lists, with arguments that fit each function, for the tests of what holds of all of them."""

import copy

from boundedlevels import (
    account, board, desk, flows, heaps, late, leasts, needs, plain, readings, rounds, texts, units, ways, woven,
)
from boundedlevels.account import Account
from boundedlevels.board import Board
from boundedlevels.readings import Finder
from boundedlevels.ways import Way

INTERFACE = {
    plain: "is_event(thing), is_row(thing), end_of(row, start)",
    ways: "levels_of(row, start), way_of(row), starts_for(way, end), starts_between(way, low, high), "
          "nowhere_above(one, other), higher_start(one, other), greatest_of(ways), least_of(ways)",
    leasts: "alike(row, other), parting_start(row, other), is_parting(row, other, thing), equal_starts(row, other), "
            "least_rows(way), least_row(way), fewest_events(row), alike_within(row, other, low, high), "
            "parting_within(row, other, low, high), least_within(row, low, high), fewest_within(row, low, high)",
    late: "without(row, place), doubled(row, place, later=0), moved(row, place, goal), lost_matters(row, place), "
          "doubled_matters(row, place, later=0), moved_alike(row, place, goal), forgotten(row, place, start=None), "
          "needless(row), thinned(row), in_order(row, order), is_late(thing, many, most), how_many_late(many, most), "
          "late_ways(row, most), late_orders(row, most, start), held_end(adds, floor, cap, start), "
          "held_orders(adds, most), with_lost(row, start, most), lost_to_rise(row, start, goal), "
          "lost_to_sink(row, start, goal), lost_for(row, start, end, most), surely_there(row, start, end, most)",
    units: "lifted(row, start), cut(row, start), fate(row, unit), living(row), died_at(row, place), lifted_line(row), "
           "cut_line(row), top_start(row, level), bottom_start(row, level), safe_starts(row, low, high), "
           "reaches(row, start, level), falls_to(row, start, level), least_reaching(row, level), "
           "greatest_falling(row, level)",
    rounds: "stays(way), settles(way, start), rounds_up_to(way, start, level), rounds_down_to(way, start, level), "
            "forgets_after(way), meet_after(way, one, other), highest(row, start, times), lowest(row, start, times), "
            "rounds_within(row, start, low, high), long_run(row, start)",
    woven: "is_weaving(streams, thing), woven_row(streams, weaving), highest_woven(streams), lowest_woven(streams), "
           "highest_weaving(streams, start), lowest_weaving(streams, start), woven_parting(streams), "
           "is_woven_parting(streams, thing), ends_woven(streams, start), weaving_to(streams, start, end), "
           "many_quiet(streams, start), quiet_weaving(streams, start)",
    heaps: "is_order(many, thing), heap_row(heap, order), highest_heap(heap), lowest_heap(heap), highest_order(heap), "
           "lowest_order(heap), ends_heap(heap, start), quiet_orders(heap, start), quiet_order(heap, start), "
           "highest_held(adds, floor, cap, start), lowest_held(adds, floor, cap, start), lowest_steps(steps), "
           "highest_steps(steps), lowest_step_order(steps), highest_step_order(steps), step_need(steps), "
           "highest_deeds(deeds), lowest_deeds(deeds), highest_deed_order(deeds, start), "
           "lowest_deed_order(deeds, start)",
    flows: "is_limits(thing), is_levels(limits, thing), flow(limits, levels, amounts), "
           "flow_moments(limits, levels, amounts), flow_times(limits, levels, amounts, times), "
           "went_on(limits, levels, amounts), sum_rows(limits, amounts), sum_ways(limits, amounts), "
           "flows_alike(limits, amounts, others), flow_parting(limits, amounts, others), "
           "is_flow_parting(limits, amounts, others, thing), sums_for(limits, amounts, levels), "
           "flow_start(limits, amounts, levels), room_lacking(limits, levels, amounts), "
           "store_lacking(limits, levels, amounts), greatest_flow(limits, levels, amounts), "
           "least_flow(limits, levels, amounts), orders_matter(limits, amounts)",
    readings: "is_guess(thing), fits_guess(guess, row), goes_with(guess, starts, readings, thing), "
              "going(guess, starts, readings), levels_by(guess, starts, readings), "
              "numbers_by(guess, starts, readings), settled(guess, starts, readings), "
              "needless_readings(guess, starts, readings), first_wrong(guess, starts, readings)",
    needs: "adds_between(row, place, start, low, high), floors_between(row, place, start, low, high), "
           "caps_between(row, place, start, low, high), least_cap(row, start, goal), "
           "greatest_floor(row, start, goal), with_adds(row, amounts), price_of(amounts, prices), "
           "cheapest(row, prices, start, goal), cheapest_amounts(row, prices, start, goal)",
    texts: "event_text(event), row_text(row), row_in(text), way_in(text), shown(row, start)",
    desk: "answers(sheet), is_command(line)",
}
# For each class its file, the methods with their parameters behind self, and the properties.
CLASSES = {
    Way: (ways, "__init__(shift, floor=None, cap=None), __call__(start), __rshift__(other), __mul__(times), "
                "__eq__(other)", "shift floor cap text"),
    Finder: (readings, "__init__(low, high, first, last), ends(start), tell(start, end), asks(), ask()", "many way"),
    Account: (account, "__init__(start), do(event), late(place, event), drop(place), change(place, event), "
                       "move(place, goal), close(moment), back(), would(place, event), from_start(start), "
                       "open_starts(), twin(), __len__(), __getitem__(at), __contains__(x), __iter__(), __eq__(other)",
              "start row level way"),
    Board: (board, "__init__(), bounds(name), heir_of(name), chain(name), "
                   "admit(name, level, low=None, high=None, heir=None), shut(name), give(name, number), "
                   "call(name, number), rule(name, low, high), leave_to(name, heir), back(), room(name), stock(name), "
                   "foresee(name, numbers), ways(name, numbers), least_gift(name, other, level), "
                   "least_call(name, other, level), twin(), __getitem__(at), __contains__(x), __len__(), __iter__(), "
                   "__eq__(other)", "names deeds"),
}

ROW = (("add", -5), ("floor", 0), ("add", 3), ("cap", 6))
OTHER = (("cap", 8), ("floor", 5), ("add", -1))
STREAMS = ((("add", 5), ("cap", 6)), (("floor", 0), ("add", -4)))
LIMITS = ((0, 2), (-1, 3), (0, 4))
GUESS = (("add", 1, 3), ("cap", 10, 10), ("floor", 0, 2), ("add", -2, -2))
SHARED = {
    "row": ROW, "other": OTHER, "start": 2, "low": -3, "high": 9, "end": 4, "place": 1, "later": 2, "goal": 3,
    "order": (2, 0, 3, 1), "many": 3, "most": 2, "adds": (4, -3, 2, -6), "floor": 0, "cap": 10, "unit": 4, "level": 3,
    "times": 5, "streams": STREAMS, "weaving": (1, 0, 0, 1), "ways": (Way(1, 0, 5), Way(None, 7, 7), Way(1, 2)),
    "heap": ROW, "steps": ((-5, 0), (3, 4), (2, -1)), "deeds": (ROW, OTHER, (("add", 2), ("cap", 7))),
    "limits": LIMITS, "levels": (1, 2, 0), "amounts": (4, -3, 0, 2), "others": (1, -2), "guess": GUESS,
    "starts": (0, None), "readings": ((2, 9), (4, 7), (2, 9)), "prices": (1, 5, 3, 2, 4), "event": ("cap", -3),
    "text": "+5, <= 3, -4", "sheet": "open a 5\ndo a >= 7\nnames", "line": "late ann 0 <= -3",
}
THINGS = {
    "is_event": ("cap", 3), "is_row": ROW, "is_parting": 8, "is_late": (1, 0, 2), "is_weaving": (0, 1, 1, 0),
    "is_woven_parting": (4, (0, 0, 1, 1), (1, 1, 0, 0)), "is_order": (1, 2, 0), "is_limits": LIMITS,
    "is_levels": (1, 3, 4), "is_flow_parting": (1, 2, 0), "is_guess": GUESS,
    "goes_with": (7, (("add", 2), ("cap", 10), ("floor", 1), ("add", -2))),
}
# Those that tell a number stand in none of these.
KINDS = {
    bool: "is_event is_row is_parting alike alike_within nowhere_above is_late is_weaving is_woven_parting is_order "
          "is_limits is_levels flows_alike is_flow_parting orders_matter is_guess fits_guess goes_with is_command",
    list: "levels_of equal_starts least_rows needless lost_for long_run ends_woven ends_heap flow_moments levels_by "
          "numbers_by shown answers",
    tuple: "starts_for starts_between least_row least_within without doubled moved lost_matters doubled_matters "
           "moved_alike thinned in_order late_ways late_orders held_orders with_lost surely_there living died_at "
           "lifted_line cut_line safe_starts stays settles woven_row highest_weaving lowest_weaving woven_parting "
           "weaving_to quiet_weaving heap_row highest_order lowest_order quiet_order lowest_step_order "
           "highest_step_order highest_deed_order lowest_deed_order flow flow_times went_on sum_rows sum_ways "
           "flow_parting sums_for flow_start greatest_flow least_flow going settled needless_readings adds_between "
           "floors_between caps_between with_adds cheapest_amounts row_in",
    Way: "way_of greatest_of least_of highest_woven lowest_woven highest_heap lowest_heap lowest_steps highest_steps "
         "highest_deeds lowest_deeds way_in",
    str: "event_text row_text",
}
# What the others take does not fit these.
OWN = {
    "nowhere_above": {"one": Way(3, 0, 5), "other": Way(2, 1, 9)},
    "higher_start": {"one": Way(3, 0, 5), "other": Way(2, 1, 9)},
    "meet_after": {"one": 5, "other": 9},
    "doubled_matters": {"place": 0},
    "forgotten": {"place": 0, "start": -9},
    "least_reaching": {"level": 5},
    "rounds_within": {"start": 7, "low": 0},
    "lost_for": {"end": 3},
    "surely_there": {"end": 3},
    "weaving_to": {"start": 4, "end": 5},
    "quiet_weaving": {"start": 4},
    "quiet_order": {"start": 6},
    "fits_guess": {"row": THINGS["goes_with"][1]},
    "first_wrong": {"readings": ((2, 9), (4, 6), (2, 9))},
    "sums_for": {"levels": (2, 2, 2)},
    "flow_start": {"levels": (2, 2, 2)},
    "with_adds": {"amounts": (0, 2, 1, 0, 3)},
    "price_of": {"amounts": (0, 2, 1, 0, 3)},
    "floors_between": {"start": 8},
    "way_in": {"text": "-1 -4 6"},
}


def calls_of(text):
    """(name, parameters) of each function in a line of the interface."""
    return [call.rstrip(")").split("(") for call in text.split("), ")]


def interface():
    """(function, names of its parameters) for all that the interface lists."""
    calls = []
    for module, text in INTERFACE.items():
        for name, parameters in calls_of(text):
            calls.append((getattr(module, name), [part.split("=")[0] for part in parameters.split(", ")]))
    return calls


def arguments_for(function, names):
    """A dict of arguments for the function, new each time."""
    values = {name: copy.deepcopy(SHARED[name]) for name in names if name in SHARED}
    if "way" in names:
        values["way"] = Way(-2, 3, 6)
    if "thing" in names:
        values["thing"] = THINGS[function.__name__]
    return {**values, **copy.deepcopy(OWN.get(function.__name__, {}))}


def plainly(value):
    """A value in which Ways are told by their texts, so that types are compared, too."""
    if isinstance(value, Way):
        return ("way", value.shift, value.floor, value.cap)
    if isinstance(value, (list, tuple)):
        return type(value)(plainly(part) for part in value)
    return (type(value).__name__, value)
