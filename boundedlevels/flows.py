"""Flows: levels in a row, where what is too much goes on to the next one, and what lacks is called from it.

The sum of the first levels goes its own Way, whatever the others are: so what holds
for all LEVELS is told by the Ways of the sums.
"""

from boundedlevels.cascades import levels_of_sums, poured_moments, sum_row, sums_of, sums_of_bounds
from boundedlevels.leasts import parting_within
from boundedlevels.plain import is_number
from boundedlevels.stretches import is_window, meeting
from boundedlevels.traces import one_trace
from boundedlevels.ways import led, levels_of, starts_for, way_of


def is_limits(thing):
    """Whether thing is LIMITS: a tuple of one pair of numbers or more, none crossed."""
    return isinstance(thing, tuple) and len(thing) > 0 and all([is_window(pair) for pair in thing])


def is_levels(limits, thing):
    """Whether thing is LEVELS of these LIMITS."""
    if not isinstance(thing, tuple) or len(thing) != len(limits):
        return False
    return all([is_number(level) and low <= level <= high for level, (low, high) in zip(thing, limits)])


def flow_moments(limits, levels, amounts):
    """The LEVELS at all moments, the first ones first."""
    moments, _ = poured_moments(limits, levels, amounts)
    return moments


def flow(limits, levels, amounts):
    """The LEVELS behind all AMOUNTS."""
    return flow_moments(limits, levels, amounts)[-1]


def flow_times(limits, levels, amounts, times):
    """The LEVELS behind so many times all AMOUNTS."""
    ways = [way * times for way in sum_ways(limits, amounts)]
    return levels_of_sums([led(way, total) for way, total in zip(ways, sums_of(levels))])


def went_on(limits, levels, amounts):
    """For each level the pair of what went on from it: of what was given, and of what was called."""
    _, went = poured_moments(limits, levels, amounts)
    more = [passed for passed, amount in zip(went, amounts) if amount > 0]
    less = [passed for passed, amount in zip(went, amounts) if amount < 0]
    return tuple([(sum([passed[at] for passed in more]), sum([passed[at] for passed in less]))
                  for at in range(len(limits))])


def sum_rows(limits, amounts):
    """For each level the ROW of what the AMOUNTS do to the sum at it."""
    return tuple([sum_row(low, high, amounts) for low, high in sums_of_bounds(limits)])


def sum_ways(limits, amounts):
    """For each level the Way of what the AMOUNTS do to the sum at it."""
    return tuple([way_of(row) for row in sum_rows(limits, amounts)])


def levels_with_sum(limits, at, total):
    """LEVELS with this sum at one level, the levels behind it at their lows."""
    lows = [low for low, _ in limits]
    # The first levels take all of it: there is room for a sum that is not above that of the highs.
    return flow(limits, lows, (total - sum(lows[:at + 1]),))


def flow_parting(limits, amounts, others):
    """LEVELS that both AMOUNTS lead to unlike ones; None if there are none."""
    pairs = list(zip(sum_rows(limits, amounts), sum_rows(limits, others)))
    for at, (low, high) in enumerate(sums_of_bounds(limits)):
        row, other = pairs[at]
        total = parting_within(row, other, low, high)
        if total is not None:
            return levels_with_sum(limits, at, total)
    return None


def flows_alike(limits, amounts, others):
    """Whether both AMOUNTS lead all LEVELS to the same ones."""
    return flow_parting(limits, amounts, others) is None


def is_flow_parting(limits, amounts, others, thing):
    """Whether thing is LEVELS that both AMOUNTS lead to unlike ones."""
    return is_levels(limits, thing) and flow(limits, thing, amounts) != flow(limits, thing, others)


def sums_for(limits, amounts, levels):
    """For each level the pair of the sums that end at the sum of these LEVELS; None if some level has none."""
    told = []
    for way, end, window in zip(sum_ways(limits, amounts), sums_of(levels), sums_of_bounds(limits)):
        starts = starts_for(way, end)
        sums = None if starts is None else meeting([starts, window])
        if sums is None:
            return None
        told.append(sums)
    return tuple(told)


def flow_start(limits, amounts, levels):
    """LEVELS that the AMOUNTS lead to these ones; None if there are none."""
    sums = sums_for(limits, amounts, levels)
    if sums is None:
        return None
    # From each sum to the next one a level is added, which is from its low to its high.
    trace = one_trace([("add", low, high) for low, high in limits], [(0, 0), *sums])
    return None if trace is None else tuple([number for _, number in trace[1]])


def room_lacking(limits, levels, amounts):
    """The least number by which the last high must be greater so that nothing is lost."""
    low, high = sums_of_bounds(limits)[-1]
    # With enough room no cap cuts the sum of all levels.
    return max(0, max(levels_of(sum_row(low, None, amounts), sum(levels))) - high)


def store_lacking(limits, levels, amounts):
    """The least number by which the last low must be less so that all that is called is had."""
    low, high = sums_of_bounds(limits)[-1]
    return max(0, low - min(levels_of(sum_row(None, high, amounts), sum(levels))))


def calls_first(amounts):
    """The AMOUNTS in this order: all calls, then all gifts."""
    return [amount for amount in amounts if amount < 0] + [amount for amount in amounts if amount > 0]


def gifts_first(amounts):
    """The AMOUNTS in this order: all gifts, then all calls."""
    return [amount for amount in amounts if amount > 0] + [amount for amount in amounts if amount < 0]


def greatest_flow(limits, levels, amounts):
    """The LEVELS behind all calls, then all gifts."""
    return flow(limits, levels, calls_first(amounts))


def least_flow(limits, levels, amounts):
    """The LEVELS behind all gifts, then all calls."""
    return flow(limits, levels, gifts_first(amounts))


def orders_matter(limits, amounts):
    """Whether some order of the AMOUNTS leads some LEVELS to others than another order does."""
    # No sum ends greater than by one of these two orders, none less than by the other one.
    return not flows_alike(limits, calls_first(amounts), gifts_first(amounts))
