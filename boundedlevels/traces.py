"""Traces: levels through EVENTs whose numbers are known only from one to another.

A guess is a tuple of triples (word, low, high). For each moment a STRETCH tells
which levels are allowed there, None if none is.
"""

from boundedlevels.plain import level_behind
from boundedlevels.stretches import levels_made, meeting, sources


def levels_ahead(guess, allowed):
    """The STRETCHes of the levels at the moments, each by what is known up to it; they end ahead of the first None."""
    told = []
    levels = (None, None)
    for moment, stretch in enumerate(allowed):
        if moment > 0:
            word, low, high = guess[moment - 1]
            levels = levels_made(word, levels, (low, high))
        levels = None if stretch is None else meeting([levels, stretch])
        if levels is None:
            return told
        told.append(levels)
    return told


def levels_left(guess, allowed):
    """The STRETCHes of the levels at all moments, by all that is known; None if there are none."""
    ahead = levels_ahead(guess, allowed)
    if len(ahead) < len(allowed):
        return None
    told = [ahead[-1]]
    for (word, low, high), levels in zip(guess[::-1], ahead[-2::-1]):
        # From each level that can be there some number leads on: so the two always meet.
        told.append(meeting([levels, sources(word, (low, high), told[-1])]))
    return told[::-1]


def numbers_left(event, levels, following):
    """The pair (low, high) of the numbers of a triple with which one of the levels comes to one of the following."""
    word, low, high = event
    return meeting([(low, high), sources(word, levels, following)])


def one_of(stretch):
    """A number of a STRETCH."""
    least, greatest = stretch
    if least is not None:
        return least
    return 0 if greatest is None else greatest


def one_trace(guess, allowed):
    """A start and a ROW that fits the guess, with allowed levels at all moments; None if there are none."""
    left = levels_left(guess, allowed)
    if left is None:
        return None
    start = level = one_of(left[0])
    row = []
    for event, following in zip(guess, left[1:]):
        number, _ = numbers_left(event, (level, level), following)
        row.append((event[0], number))
        level = level_behind(row[-1], level)
    return (start, tuple(row))
