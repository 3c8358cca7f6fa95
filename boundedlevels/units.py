"""What is lifted at floors and cut at caps, unit by unit.

The unit n is the step from the start n to the start n + 1. Those that live are a
stretch: floors take them away from below, caps from above.
"""

from boundedlevels.plain import level_behind
from boundedlevels.rows import check_place
from boundedlevels.stretches import meeting
from boundedlevels.ways import Way, event_way, held, levels_of, starts_between


def changed_by(word, row, start):
    """How much all EVENTs with this word change the level together, for this start."""
    levels = levels_of(row, start)
    return sum([behind - ahead for event, ahead, behind in zip(row, levels, levels[1:]) if event[0] == word])


def lifted(row, start):
    """How much all floors lift together, for this start."""
    return changed_by("floor", row, start)


def cut(row, start):
    """How much all caps cut together, for this start."""
    return -changed_by("cap", row, start)


def fate(row, unit):
    """The place of the EVENT at which the unit dies; None if it lives."""
    below, above = unit, unit + 1
    for place, event in enumerate(row):
        below, above = level_behind(event, below), level_behind(event, above)
        if below == above:
            return place
    return None


def living_at_moments(row):
    """The pairs (first, behind) of the units that live, at all moments."""
    pairs = [(None, None)]
    added = 0
    for word, number in row:
        first, behind = pairs[-1]
        # As long as a unit n lives, its levels are n + added and one more.
        if word == "add":
            added += number
        elif word == "floor":
            first = held(number - added, first, behind)
        else:
            behind = held(number - added, first, behind)
        pairs.append((first, behind))
    return pairs


def living(row):
    """The pair (first, behind) of the units that live, from first to behind - 1; None for no bound."""
    return living_at_moments(row)[-1]


def died_at(row, place):
    """The pair (first, behind) of the units that die at the EVENT at this place; None if none does."""
    check_place(row, place)
    moments = living_at_moments(row)
    first, behind = moments[place]
    first_left, behind_left = moments[place + 1]
    if first != first_left:
        return (first, first_left)
    if behind != behind_left:
        return (behind_left, behind)
    return None


def lifted_line(row):
    """The pair (least, below): for every start least + max(0, below - start) is lifted."""
    below, _ = living(row)
    return (0, None) if below is None else (lifted(row, below), below)


def cut_line(row):
    """The pair (least, above): for every start least + max(0, start - above) is cut."""
    _, above = living(row)
    return (0, None) if above is None else (cut(row, above), above)


def ways_to_moments(row):
    """The Ways of what is done up to each moment."""
    ways = [Way(0)]
    for event in row:
        ways.append(ways[-1] >> event_way(event))
    return ways


def kept_starts(row, low, high):
    """The STRETCH of the starts from which the level is between two BOUNDs, not crossed, at all moments; or None."""
    stretches = [starts_between(way, low, high) for way in ways_to_moments(row)]
    return None if None in stretches else meeting(stretches)


def top_start(row, level):
    """The greatest start from which the level is at no moment above this one; None if there is none."""
    starts = kept_starts(row, None, level)
    return None if starts is None else starts[1]


def bottom_start(row, level):
    """The least start from which the level is at no moment below this one; None if there is none."""
    starts = kept_starts(row, level, None)
    return None if starts is None else starts[0]


def safe_starts(row, low, high):
    """The STRETCH of the starts from which the level is from low to high at all moments; None if there are none."""
    return None if low > high else kept_starts(row, low, high)


def reaches(row, start, level):
    """The first moment at which the level is this one or above it; None if there is none."""
    for moment, now in enumerate(levels_of(row, start)):
        if now >= level:
            return moment
    return None


def falls_to(row, start, level):
    """The first moment at which the level is this one or below it; None if there is none."""
    for moment, now in enumerate(levels_of(row, start)):
        if now <= level:
            return moment
    return None


def least_reaching(row, level):
    """The least start from which this level is reached at some moment; None if it is from every start."""
    below = top_start(row, level - 1)
    return None if below is None else below + 1


def greatest_falling(row, level):
    """The greatest start from which the level falls to this one at some moment; None if it does from every start."""
    above = bottom_start(row, level + 1)
    return None if above is None else above - 1
