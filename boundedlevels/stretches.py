"""STRETCHes of numbers: what is in several of them, and what EVENTs make of them.

A level from one STRETCH and a number from another one make, with each word of
EVENTs, a STRETCH again. So it is enough to reckon with the ends.
"""

from boundedlevels.plain import is_number
from boundedlevels.rows import mirrored_bound


def is_window(thing):
    """Whether thing is a pair of numbers, the first not above the second."""
    if not isinstance(thing, tuple) or len(thing) != 2:
        return False
    return is_number(thing[0]) and is_number(thing[1]) and thing[0] <= thing[1]


def is_in(number, stretch):
    """Whether the number is in the STRETCH."""
    least, greatest = stretch
    return (least is None or number >= least) and (greatest is None or number <= greatest)


def meeting(stretches):
    """The STRETCH of the numbers that are in all these STRETCHes; None if there are none."""
    least = max([first for first, _ in stretches if first is not None], default=None)
    greatest = min([last for _, last in stretches if last is not None], default=None)
    if least is not None and greatest is not None and least > greatest:
        return None
    return (least, greatest)


def bound_sum(one, other):
    """The sum of two BOUNDs: None if one of them is."""
    return None if one is None or other is None else one + other


def mirrored_stretch(stretch):
    """The STRETCH in the mirror; None if it is None."""
    return None if stretch is None else (mirrored_bound(stretch[1]), mirrored_bound(stretch[0]))


def levels_made(word, levels, numbers):
    """The STRETCH of the levels behind an EVENT with this word, by the levels ahead and the numbers."""
    if word == "add":
        return (bound_sum(levels[0], numbers[0]), bound_sum(levels[1], numbers[1]))
    if word == "cap":
        return mirrored_stretch(levels_made("floor", mirrored_stretch(levels), mirrored_stretch(numbers)))
    least = max([first for first, _ in (levels, numbers) if first is not None], default=None)
    lasts = [last for _, last in (levels, numbers)]
    return (least, None if None in lasts else max(lasts))


def sources(word, others, targets):
    """The STRETCH of what makes one of the targets with one of the others; None if there is none.

    The others are levels if numbers are asked for, and numbers if levels are: each
    word does with a level and a number what it does with both exchanged.
    """
    if word == "add":
        return levels_made("add", targets, mirrored_stretch(others))
    if word == "cap":
        return mirrored_stretch(sources("floor", mirrored_stretch(others), mirrored_stretch(targets)))
    if meeting([others, targets]) is not None:
        # Another one is a target by itself: all that is not above the targets leaves it one.
        return (None, targets[1])
    above = others[0] is not None and targets[1] is not None and others[0] > targets[1]
    return None if above else targets
