"""What the tests share: a step-by-step reckoning of their own, rows to try, and starts to try them from.

Nothing here takes a result from the package, so that no fault of it can hide.
"""

import itertools
import random

HUGE = 10 ** 30
FAR = (-10 ** 40, -HUGE, -10 ** 18, -10 ** 9, 10 ** 9, 10 ** 18, HUGE, 10 ** 40)


def stepped(row, start):
    """The levels at all moments, one EVENT after another."""
    levels = [start]
    for word, number in row:
        level = levels[-1]
        if word == "add":
            level = level + number
        elif word == "floor" and level < number:
            level = number
        elif word == "cap" and level > number:
            level = number
        levels.append(level)
    return levels


def end(row, start):
    return stepped(row, start)[-1]


def turning_starts(*rows):
    """Starts, with their neighbours, at which what a ROW does can turn, or one can meet another.

    A start that no floor lifts and no cap cuts comes to an EVENT with the sum
    of the adds ahead of it; what a floor or cap makes of it ends at its number
    and the adds behind it.
    """
    starts = {0}
    totals = [sum(number for word, number in row if word == "add") for row in rows]
    for row in rows:
        ahead, own = 0, sum(number for word, number in row if word == "add")
        for word, number in row:
            if word == "add":
                ahead += number
            else:
                starts.add(number - ahead)
                starts.update(number + own - ahead - total for total in totals)
    return sorted({start + step for start in starts for step in range(-2, 3)})


def all_starts(*rows):
    """Turning starts and far ones."""
    return sorted(set(turning_starts(*rows)) | set(FAR))


def random_row(rng, many, reach, words=("add", "floor", "cap")):
    return tuple((rng.choice(words), rng.randint(-reach, reach)) for _ in range(many))


def random_rows(seed, count, longest, reaches=(2, 9, HUGE)):
    """So many rows of at most so many EVENTs, of numbers near 0 and far from it; the same for the same seed."""
    rng = random.Random(seed)
    return [random_row(rng, rng.randint(0, longest), rng.choice(reaches)) for _ in range(count)]


def every_row(longest, reach):
    """All ROWs of at most so many EVENTs with numbers from -reach to reach."""
    events = [(word, number) for word in ("add", "floor", "cap") for number in range(-reach, reach + 1)]
    for many in range(longest + 1):
        yield from itertools.product(events, repeat=many)


def moved_up(row, by):
    """The ROW that does to each start + by what row does to the start, and ends greater by as much."""
    return tuple((word, number if word == "add" else number + by) for word, number in row)


def listed(value):
    """The same with a list for each tuple, at any depth."""
    if isinstance(value, (list, tuple)):
        return [listed(part) for part in value]
    return value


def every_bounds(reach):
    """All pairs (floor, cap) of BOUNDs from -reach to reach that are not crossed."""
    bounds = [None, *range(-reach, reach + 1)]
    return [(floor, cap) for floor in bounds for cap in bounds if floor is None or cap is None or floor <= cap]


def bound_triples(reach):
    """(shift, floor, cap) of all unlike ways with numbers from -reach to reach."""
    triples = []
    for floor, cap in every_bounds(reach):
        if floor is not None and floor == cap:
            triples.append((None, floor, cap))
        else:
            triples.extend((shift, floor, cap) for shift in range(-reach, reach + 1))
    return triples


def led_by(triple, start):
    """Where a way of this shift, floor and cap leads the start."""
    shift, floor, cap = triple
    if shift is None:
        return floor
    level = start + shift
    if floor is not None and level < floor:
        return floor
    if cap is not None and level > cap:
        return cap
    return level


def inside(stretch, start):
    """Whether the start is in a STRETCH, None being none."""
    if stretch is None:
        return False
    least, greatest = stretch
    return (least is None or start >= least) and (greatest is None or start <= greatest)


def stretch_fault(stretch, starts, holds):
    """What is wrong with a STRETCH that is told for the starts for which something holds; None if nothing is.

    The starts are to be such that each end of the right STRETCH and the start
    beyond it are among them.
    """
    if stretch is not None:
        if type(stretch) is not tuple or len(stretch) != 2:
            return f"no pair: {stretch}"
        if None not in stretch and stretch[0] > stretch[1]:
            return f"the first above the second: {stretch}"
        if any(bound is not None and bound not in starts for bound in stretch):
            return f"nothing turns at an end: {stretch}"
    wrong = [start for start in starts if inside(stretch, start) is not holds(start)]
    return f"told {stretch}, wrong for {wrong}" if wrong else None


def crossing_starts(row, *levels):
    """Starts, with their neighbours, that can come to an EVENT's number or one of these levels; and far ones."""
    starts, ahead = {0, *levels}, 0
    for word, number in row:
        if word == "add":
            ahead += number
            starts.update(level - ahead for level in levels)
        else:
            starts.add(number - ahead)
    return sorted({start + step for start in starts for step in range(-2, 3)} | set(FAR))


def scaled(row, by):
    """The ROW that does to start * by what row does to the start, by times over."""
    return tuple((word, number * by) for word, number in row)
