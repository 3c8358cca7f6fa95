"""Needs: what must be put into a ROW, and where, so that it ends where it shall."""

from boundedlevels.errors import Unlike
from boundedlevels.plain import end_of, level_behind
from boundedlevels.rows import check_moment, in_tuples, mirrored, mirrored_bound
from boundedlevels.stretches import sources
from boundedlevels.ways import starts_between, way_of


def numbers_between(word, row, place, start, low, high):
    """The STRETCH of the numbers of an EVENT with this word, put in at this place, to end from low to high; or None."""
    check_moment(row, place)
    targets = starts_between(way_of(row[place:]), low, high)
    level = end_of(row[:place], start)
    return None if targets is None else sources(word, (level, level), targets)


def adds_between(row, place, start, low, high):
    """The STRETCH of the numbers of an add, put in at this place, to end from low to high; None if there are none."""
    return numbers_between("add", row, place, start, low, high)


def floors_between(row, place, start, low, high):
    """The STRETCH of the numbers of a floor, put in at this place, to end from low to high; None if there are none."""
    return numbers_between("floor", row, place, start, low, high)


def caps_between(row, place, start, low, high):
    """The STRETCH of the numbers of a cap, put in at this place, to end from low to high; None if there are none."""
    return numbers_between("cap", row, place, start, low, high)


def least_cap(row, start, goal):
    """The least number under which the ROW can be kept and still ends at goal or more; None if there is none."""
    if end_of(row, start) < goal:
        return None
    # A cap that cuts makes the level its number there: so from each moment on this number must still lead to the goal.
    starts = [starts_between(way_of(row[moment:]), goal, None) for moment in range(1, len(row) + 1)]
    return max([least for least, _ in starts if least is not None])


def greatest_floor(row, start, goal):
    """The greatest number above which the ROW can be kept and still ends at goal or less; None if there is none."""
    return mirrored_bound(least_cap(mirrored(row), -start, -goal))


def check_as_many(numbers, many):
    """Raises Unlike if there are not so many numbers."""
    if len(numbers) != many:
        raise Unlike()


def with_adds(row, amounts):
    """The ROW in which each amount above 0 is added ahead of the EVENT at its place, the last one behind all."""
    check_as_many(amounts, len(row) + 1)
    told = []
    for place, amount in enumerate(amounts):
        if amount > 0:
            told.append(("add", amount))
        told.extend(row[place:place + 1])
    return in_tuples(told)


def price_of(amounts, prices):
    """The sum of the amounts, each times the price at its place."""
    check_as_many(prices, len(amounts))
    return sum([amount * price for amount, price in zip(amounts, prices)])


def unmoved(row):
    """The ROW with each number less the adds ahead of it, and the sum of all adds; the adds themselves add 0."""
    added, told = 0, []
    for word, number in row:
        told.append((word, 0 if word == "add" else number - added))
        added += number if word == "add" else 0
    return (told, added)


def cheapest_raises(states, price, marks):
    """The states behind an amount at this price, by which a level stays or comes to a greater one of the marks.

    A state is a level with the pair (price, amounts) of the cheapest amounts that lead
    to it; each level is one of the marks, which ascend.
    """
    told = {}
    best = None
    for mark in marks:
        if mark in states:
            # What it costs from here on, less what all marks have in common.
            offer = (states[mark][0] - price * mark, mark)
            best = offer if best is None else min(best, offer)
        if best is not None:
            rest, level = best
            told[mark] = (rest + price * mark, (*states[level][1], mark - level))
    return told


def states_behind(event, states):
    """The states behind an EVENT."""
    told = {}
    for level, offer in states.items():
        behind = level_behind(event, level)
        told[behind] = min(told.get(behind, offer), offer)
    return told


def cheapest_amounts(row, prices, start, goal):
    """AMOUNTS with the least price with which the ROW ends at goal or more."""
    check_as_many(prices, len(row) + 1)
    # Levels less what was added by the ROW itself: so adds move nothing, and it is never cheaper to
    # raise a level elsewhere than to the number of a floor or a cap, or to the goal.
    events, added = unmoved(row)
    numbers = [number for word, number in events if word != "add"]
    marks = sorted(set([start, goal - added, *numbers]))
    states = {start: (0, ())}
    for event, price in zip(events, prices):
        states = states_behind(event, cheapest_raises(states, price, marks))
    states = cheapest_raises(states, prices[-1], marks)
    _, amounts = min([offer for level, offer in states.items() if level >= goal - added])
    return amounts


def cheapest(row, prices, start, goal):
    """The least price of AMOUNTS with which the ROW ends at goal or more."""
    return price_of(cheapest_amounts(row, prices, start, goal), prices)
