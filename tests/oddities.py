"""Things that are nothing that the document describes, and things that are nearly so, nested up to twelve levels."""

from reckoning import HUGE


def nested(thing, deep, make):
    for _ in range(deep):
        thing = make(thing)
    return thing


def odd_things():
    """Things that are neither an EVENT nor a ROW nor a number."""
    things = [
        None, True, False, "", "add", "floor", "cap", "add 5", "a", "5", [], [[]], [()], ((),), ([],), (((),),),
        ("add",), (5,), ("add", 5, 5), ("add", 5, None), (5, "add"), ("add", "add"), (5, 5), ("add", "5"),
        ("add", None), ("add", ""), ("add", True), ("floor", False), ("cap", True), ("add", (5,)), ("add", [5]),
        ("add", ()), ("Add", 5), ("ADD", 5), ("add ", 5), (" add", 5), ("", 5), ("ad", 5), ("adds", 5), ("min", 5),
        ("max", 5), ("sub", 5), ("a", "d"), (None, 5), (True, 5), (0, 5), (("add",), 5), (["add"], 5),
        ((("add", 5)), 5), ("floorcap", 1), ("addfloor", 1), (None, None), (True, False),
        ["add", 5], ["floor", 0], ["cap", -1], [("add", 5)], [["add", 5]], [("add", 5), ("cap", 3)],
        (["add", 5],), (("add", 5), ["cap", 3]), (("add", 5), None), (("add", 5), ()), (("add", 5), "cap"),
        (("add", 5), 5), (5, ("add", 5)), (("add", 5), ("cap", True)), (("add", False),), (("add", 5), ("max", 3)),
        (("add", 5), ("cap", 3, 3)), (("add", 5), ("cap",)), ((("add", 5),),), ((("add", 5), ("cap", 3)),),
        (("add", 5), (("cap", 3),)), (("add", 5), "add", 5), (("add", [5]),), ((["add"], 5),), ("add", ("add", 5)),
        (("add", 5), ("add", 5), ["add", 5]), (["add", 5], ("add", 5)), (None, ("add", 5)),
    ]
    for inner in (5, "add", True, None, (), [], ("add", 5), [["add", 5]], (("add", 5),)):
        for deep in range(1, 12):
            things.append(nested(inner, deep + 1, lambda thing: (thing,)))
            things.append(nested(inner, deep, lambda thing: [thing]))
            things.append(nested(inner, deep, lambda thing: ("add", thing)) if inner != 5 or deep > 1 else None)
            things.append(nested(inner, deep, lambda thing: (thing, 5)) if inner != "add" or deep > 1 else None)
    return things


def near_things(right):
    """Things that are this tuple of numbers, 0, 1 and 2 among them, but for one matter."""
    things = [list(right), right[:-1], (*right, 0), (*right, -1), (*right, 3), (right,), [right], (*right, right),
              tuple(str(number) for number in right), "".join(str(number) for number in right),
              tuple((number,) for number in right), tuple([number] for number in right), (), None]
    for place, number in enumerate(right):
        for wrong in (None, "", str(number), (number,), [number], -1 - number, number + 3, HUGE, -HUGE,
                      *([number == 1] if number < 2 else [])):
            things.append((*right[:place], wrong, *right[place + 1:]))
    return things + [nested(right, deep, make) for deep in range(1, 12)
                     for make in (lambda thing: (thing,), lambda thing: [thing])]
