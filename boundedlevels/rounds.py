"""Rounds: what is done again and again.

From round to round the level only rises, or only falls, or stays: a bound that turns
it back in the first round holds it from there on. So no round need be gone.
"""

from boundedlevels.rows import mirrored, mirrored_way
from boundedlevels.units import kept_starts
from boundedlevels.ways import held, led, levels_of, way_of


def steps_over(distance, step):
    """How many steps, above 0, come over a distance from 0 on."""
    return -(-distance // step)


def stays(way):
    """The STRETCH of the levels that the Way leaves as they are; None if there are none."""
    if way.shift is None or way.shift == 0:
        return (way.floor, way.cap)
    bound = way.cap if way.shift > 0 else way.floor
    return None if bound is None else (bound, bound)


def settles(way, start):
    """The least number of rounds behind which nothing changes, and the level then; None if there is none."""
    if way(start) == start:
        return (0, start)
    resting = stays(way)
    if resting is None:
        return None
    least, greatest = resting
    level = held(way(start), least, greatest)
    if way(start) == level:
        return (1, level)
    return (1 + steps_over(abs(level - way(start)), abs(way.shift)), level)


def rounds_up_to(way, start, level):
    """The least number of rounds behind which the level is this one or above it; None if it never is."""
    if start >= level:
        return 0
    if way(start) >= level:
        return 1
    if way.shift is None or way.shift <= 0 or (way.cap is not None and way.cap < level):
        return None
    return 1 + steps_over(level - way(start), way.shift)


def rounds_down_to(way, start, level):
    """The least number of rounds behind which the level is this one or below it; None if it never is."""
    return rounds_up_to(mirrored_way(way), -start, -level)


def forgets_after(way):
    """The least number of rounds, from 1, behind which all starts are at one level; None if there is none."""
    if way.shift is None:
        return 1
    if way.shift == 0 or way.floor is None or way.cap is None:
        return None
    return 1 + steps_over(way.cap - way.floor, abs(way.shift))


def meet_after(way, one, other):
    """The least number of rounds behind which these two starts are at one level; None if there is none."""
    if one == other:
        return 0
    if way(one) == way(other):
        return 1
    ends = [settles(way, start) for start in (one, other)]
    if None in ends or ends[0][1] != ends[1][1]:
        return None
    # Behind the first round they are as far apart until the one that leads has come to rest.
    return max(ends[0][0], ends[1][0])


def highest(row, start, times):
    """The greatest level at any moment of so many rounds, the start among them."""
    if times == 0:
        return start
    # The levels at which rounds begin only rise or only fall: the greatest is the first or the last one.
    last = led(way_of(row) * (times - 1), start)
    return max(levels_of(row, max(start, last)))


def lowest(row, start, times):
    """The least level at any moment of so many rounds, the start among them."""
    return -highest(mirrored(row), -start, times)


def rounds_within(row, start, low, high):
    """How many rounds can be done with the level between two BOUNDs at all moments; None if for ever."""
    safe = kept_starts(row, low, high)
    if safe is None:
        return 0
    least, greatest = safe
    way = way_of(row)
    # The first round that leaves the bounds is the first one that begins outside of the safe starts.
    above = None if greatest is None else rounds_up_to(way, start, greatest + 1)
    below = None if least is None else rounds_down_to(way, start, least - 1)
    return min([rounds for rounds in (above, below) if rounds is not None], default=None)


def long_run(row, start):
    """The levels at all moments of a round once it has settled; None if it never does."""
    settled = settles(way_of(row), start)
    return None if settled is None else levels_of(row, settled[1])
