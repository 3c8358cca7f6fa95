"""Ways: what a ROW does to all starts at once.

However long a ROW is, it adds one sum and then keeps the level between one
floor and one cap. So three numbers tell all of it, for starts however great.
"""

from boundedlevels.errors import Crossed, NoShift, Unlike
from boundedlevels.plain import level_behind


def levels_of(row, start):
    """The levels at all moments of the ROW, the start first."""
    levels = [start]
    for event in row:
        levels.append(level_behind(event, levels[-1]))
    return levels


def held(level, floor, cap):
    """The level, kept between two BOUNDs."""
    if floor is not None and level < floor:
        return floor
    if cap is not None and level > cap:
        return cap
    return level


def led(way, start):
    """The number to which the Way leads the start."""
    # An operator must not call the Way itself, so it takes this function.
    if way.shift is None:
        return way.floor
    return held(start + way.shift, way.floor, way.cap)


def bound_text(bound):
    """A number, or - for None."""
    return "-" if bound is None else str(bound)


class Way:
    """Leads each start to start + shift, kept between floor and cap; it does not change."""

    def __init__(self, shift, floor=None, cap=None):
        if floor is not None and cap is not None and floor > cap:
            raise Crossed(floor, cap)
        constant = floor is not None and floor == cap
        if shift is None and not constant:
            raise NoShift()
        # All starts of a constant end alike: only without a shift is there one Way for it.
        self._shift = None if constant else shift
        self._floor = floor
        self._cap = cap

    @property
    def shift(self):
        """What is added; None for a constant."""
        return self._shift

    @property
    def floor(self):
        """The least end, or None."""
        return self._floor

    @property
    def cap(self):
        """The greatest end, or None."""
        return self._cap

    @property
    def text(self):
        """Shift, floor and cap with a blank between, - for None."""
        return f"{bound_text(self._shift)} {bound_text(self._floor)} {bound_text(self._cap)}"

    def __call__(self, start):
        return led(self, start)

    def __rshift__(self, other):
        if not isinstance(other, Way):
            return NotImplemented
        constant = self._shift is None or other._shift is None
        shift = None if constant else self._shift + other._shift
        # The ends of this Way are the starts of the other one, its least and its greatest too.
        floor = other._floor if self._floor is None else led(other, self._floor)
        cap = other._cap if self._cap is None else led(other, self._cap)
        return Way(shift, floor, cap)

    def __mul__(self, times):
        if not isinstance(times, int):
            return NotImplemented
        if times == 0:
            return Way(0)
        if self._shift is None:
            return Way(None, self._floor, self._cap)
        # Behind the first time the level is within the bounds, and from there it only
        # rises or only falls: all other times are one sum that is held once.
        more = self._shift * (times - 1)
        floor = None if self._floor is None else held(self._floor + more, self._floor, self._cap)
        cap = None if self._cap is None else held(self._cap + more, self._floor, self._cap)
        return Way(self._shift + more, floor, cap)

    def __eq__(self, other):
        return (isinstance(other, Way) and self._shift == other._shift
                and self._floor == other._floor and self._cap == other._cap)


def event_way(event):
    """The Way of one EVENT."""
    word, number = event
    if word == "add":
        return Way(number)
    if word == "floor":
        return Way(0, number)
    return Way(0, None, number)


def way_of(row):
    """The Way of a ROW."""
    way = Way(0)
    for event in row:
        way = way >> event_way(event)
    return way


def starts_for(way, end):
    """The STRETCH of the starts that the Way leads to this number; None if there are none."""
    return starts_between(way, end, end)


def starts_between(way, low, high):
    """The STRETCH of the starts that the Way leads to a number from low to high; None if there are none."""
    if low is not None and way.cap is not None and low > way.cap:
        return None
    if high is not None and way.floor is not None and high < way.floor:
        return None
    # Where low is no more than the floor, it keeps no start out; so for a constant no shift is asked for.
    open_below = low is None or (way.floor is not None and low <= way.floor)
    open_above = high is None or (way.cap is not None and high >= way.cap)
    return (None if open_below else low - way.shift, None if open_above else high - way.shift)


def telling_starts(one, other):
    """Starts, ascending, that tell all about how two Ways stand to each other.

    If one leads some start above the other, it does so with one of these. The
    starts that both lead to the same number are stretches; each of their ends
    is one of these, neither the first nor the last.
    """
    shifts = [way.shift for way in (one, other) if way.shift is not None]
    bounds = [bound for way in (one, other) for bound in (way.floor, way.cap) if bound is not None]
    # A Way turns where its own shift leads to its bound; it comes to or leaves
    # the other one there, or where its shift leads to a bound of the other one.
    turns = sorted(set([0] + [bound - shift for bound in bounds for shift in shifts]))
    return [turns[0] - 1, *turns, turns[-1] + 1]


def nowhere_above(one, other):
    """Whether there is no start that one leads to a greater number than other does."""
    return higher_start(one, other) is None


def higher_start(one, other):
    """A start that one leads to a greater number than other does; None if there is none."""
    for start in telling_starts(one, other):
        if one(start) > other(start):
            return start
    return None


def common_shift(ways):
    """The shift of all Ways that have one; None if none has."""
    shifts = [way.shift for way in ways if way.shift is not None]
    for shift in shifts:
        if shift != shifts[0]:
            raise Unlike()
    return shifts[0] if shifts else None


def greatest_of(ways):
    """The Way that leads each start to the greatest number to which one of them leads it."""
    shift = common_shift(ways)
    floors = [way.floor for way in ways if way.floor is not None]
    caps = [way.cap for way in ways]
    return Way(shift, max(floors, default=None), None if None in caps else max(caps))


def least_of(ways):
    """The Way that leads each start to the least number to which one of them leads it."""
    shift = common_shift(ways)
    floors = [way.floor for way in ways]
    caps = [way.cap for way in ways if way.cap is not None]
    return Way(shift, None if None in floors else min(floors), min(caps, default=None))
