"""ROWs that are alike, and the ROWs with as few EVENTs as can be."""

from boundedlevels.errors import NoStarts
from boundedlevels.plain import end_of, is_number
from boundedlevels.ways import Way, telling_starts, way_of


def alike(row, other):
    """Whether two ROWs end alike for every start."""
    return way_of(row) == way_of(other)


def first_parting(one, other, starts):
    """The first of the starts that two Ways lead to unlike numbers; None if there is none."""
    for start in starts:
        if one(start) != other(start):
            return start
    return None


def parting_start(row, other):
    """A start for which two ROWs end at unlike levels; None if there is none."""
    one, two = way_of(row), way_of(other)
    return first_parting(one, two, telling_starts(one, two))


def is_parting(row, other, thing):
    """Whether thing is a number, and a start for which two ROWs end at unlike levels."""
    return is_number(thing) and end_of(row, thing) != end_of(other, thing)


def equal_starts(row, other):
    """The STRETCHes of all starts for which two ROWs end at the same level, lesser ones first."""
    one, two = way_of(row), way_of(other)
    starts = telling_starts(one, two)
    same = [start for start in starts if one(start) == two(start)]
    firsts = [start for start in same if one(start - 1) != two(start - 1)]
    lasts = [start for start in same if one(start + 1) != two(start + 1)]
    # What holds at the first or the last of the telling starts goes on without a bound.
    if starts[0] in same:
        firsts = [None] + firsts
    if starts[-1] in same:
        lasts = lasts + [None]
    return list(zip(firsts, lasts))


def orders_of(words):
    """All orders of some words, each a tuple."""
    if not words:
        return [()]
    orders = []
    for place, word in enumerate(words):
        for order in orders_of(words[:place] + words[place + 1:]):
            orders.append((word, *order))
    return orders


def needed_words(way):
    """The words of the EVENTs without which no ROW has this Way, which is no constant."""
    words = []
    if way.shift != 0:
        words.append("add")
    if way.floor is not None:
        words.append("floor")
    if way.cap is not None:
        words.append("cap")
    return words


def row_in_order(way, words):
    """The ROW with this Way, which is no constant, that has these words in this order."""
    # The add moves the bounds ahead of it, so these must lack the shift.
    still_to_add = way.shift
    row = []
    for word in words:
        if word == "add":
            row.append((word, way.shift))
            still_to_add = 0
        elif word == "floor":
            row.append((word, way.floor - still_to_add))
        else:
            row.append((word, way.cap - still_to_add))
    return tuple(row)


def least_rows(way):
    """All ROWs with this Way that have as few EVENTs as can be, ascending; of a constant only two."""
    if way.shift is None:
        cap, floor = ("cap", way.cap), ("floor", way.floor)
        return [(cap, floor), (floor, cap)]
    return sorted([row_in_order(way, words) for words in orders_of(needed_words(way))])


def least_row(way):
    """The first of the least ROWs."""
    return least_rows(way)[0]


def fewest_events(row):
    """How many EVENTs a ROW that is alike to this one has at the least."""
    return len(least_row(way_of(row)))


def check_window(low, high):
    """Raises NoStarts if no start is from low to high."""
    if low > high:
        raise NoStarts(low, high)


def alike_within(row, other, low, high):
    """Whether two ROWs end alike for all starts from low to high."""
    return parting_within(row, other, low, high) is None


def parting_within(row, other, low, high):
    """A start from low to high for which two ROWs end at unlike levels; None if there is none."""
    check_window(low, high)
    one, two = way_of(row), way_of(other)
    between = [start for start in telling_starts(one, two) if low < start < high]
    return first_parting(one, two, [low, *between, high])


def least_for_one_level(level, low, high):
    """A ROW with as few EVENTs as can be that leads all starts from low to high to this level."""
    if low == level and high == level:
        return ()
    if level >= high:
        return (("floor", level),)
    if level <= low:
        return (("cap", level),)
    return (("floor", level), ("cap", level))


def least_within(row, low, high):
    """A ROW with as few EVENTs as can be that ends as row does for all starts from low to high."""
    check_window(low, high)
    way = way_of(row)
    least, greatest = way(low), way(high)
    if least == greatest:
        return least_for_one_level(least, low, high)
    # A bound that only the first or the last start reaches is not needed: the shift leads there, too.
    floor = least if way(low + 1) == least else None
    cap = greatest if way(high - 1) == greatest else None
    return least_row(Way(way.shift, floor, cap))


def fewest_within(row, low, high):
    """How many EVENTs the ROW of least_within has."""
    return len(least_within(row, low, high))
