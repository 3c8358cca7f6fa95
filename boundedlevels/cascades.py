"""Cascades: levels in a row, each between two BOUNDs, that hand on what they cannot take or give."""

from boundedlevels.stretches import bound_sum


def poured(bounds, levels, amount):
    """The levels behind one amount, and how much of it went on from each of them, without its sign.

    An amount above 0 is given, one below 0 is called.
    """
    sign = 1 if amount > 0 else -1
    left = abs(amount)
    told, went = [], []
    for (low, high), level in zip(bounds, levels):
        end = high if amount > 0 else low
        moved = left if end is None else min(left, abs(end - level))
        left = left - moved
        told.append(level + sign * moved)
        went.append(left)
    return (tuple(told), tuple(went))


def poured_moments(bounds, levels, amounts):
    """The levels at all moments of some amounts, and behind each amount how much of it went on from each level."""
    moments, went = [tuple(levels)], []
    for amount in amounts:
        following, passed = poured(bounds, moments[-1], amount)
        moments.append(following)
        went.append(passed)
    return (moments, went)


def sums_of(levels):
    """The sums at each of the levels."""
    return tuple([sum(levels[:many + 1]) for many in range(len(levels))])


def levels_of_sums(sums):
    """The levels that have these sums."""
    return tuple([total - ahead for total, ahead in zip(sums, (0, *sums))])


def sums_of_bounds(bounds):
    """The BOUNDs of the sums at each of the levels: None from the first one on that has none."""
    sums = [(0, 0)]
    for low, high in bounds:
        lows, highs = sums[-1]
        sums.append((bound_sum(lows, low), bound_sum(highs, high)))
    return sums[1:]


def sum_row(low, high, amounts):
    """The ROW of what some amounts do to a sum that is between these BOUNDs."""
    row = []
    for amount in amounts:
        row.append(("add", amount))
        if low is not None:
            row.append(("floor", low))
        if high is not None:
            row.append(("cap", high))
    return tuple(row)
