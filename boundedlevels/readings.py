"""Readings: what levels that were read tell of the start and the numbers, and a Way that is found by asking."""

from boundedlevels.errors import Gainsaid
from boundedlevels.plain import WORDS, is_number, is_row
from boundedlevels.stretches import is_in, is_window, meeting
from boundedlevels.traces import levels_ahead, levels_left, numbers_left, one_trace
from boundedlevels.ways import Way, held, levels_of


def is_triple(thing):
    """Whether thing is a triple of a GUESS: one of the three words, and two numbers that are not crossed."""
    return isinstance(thing, tuple) and len(thing) == 3 and thing[0] in WORDS and is_window(thing[1:])


def is_guess(thing):
    """Whether thing is a GUESS: a tuple of triples, maybe ()."""
    return isinstance(thing, tuple) and all([is_triple(triple) for triple in thing])


def fits_guess(guess, row):
    """Whether the ROW has as many EVENTs as the GUESS, with its words, each with a number from low to high."""
    if len(row) != len(guess):
        return False
    return all([word == known and low <= number <= high
                for (word, number), (known, low, high) in zip(row, guess)])


def goes_with(guess, starts, readings, thing):
    """Whether thing is a pair (start, row) that goes with the GUESS, the STARTS and the READINGS."""
    if not isinstance(thing, tuple) or len(thing) != 2:
        return False
    start, row = thing
    if not is_number(start) or not is_in(start, starts) or not is_row(row) or not fits_guess(guess, row):
        return False
    levels = levels_of(row, start)
    return all([levels[moment] == level for moment, level in readings])


def allowed_levels(guess, starts, readings):
    """For each moment the STRETCH of the levels that STARTS and READINGS allow there; None if there are none."""
    stretches = [[starts]] + [[(None, None)] for _ in guess]
    for moment, level in readings:
        stretches[moment].append((level, level))
    return [meeting(known) for known in stretches]


def going(guess, starts, readings):
    """A pair (start, row) that goes with all three; None if there is none."""
    return one_trace(guess, allowed_levels(guess, starts, readings))


def levels_by(guess, starts, readings):
    """The STRETCH of the levels at each moment by all pairs that go with them; None if none does."""
    return levels_left(guess, allowed_levels(guess, starts, readings))


def numbers_by(guess, starts, readings):
    """The pair (low, high) of the numbers of each EVENT in all pairs that go with them; None if none does."""
    levels = levels_by(guess, starts, readings)
    if levels is None:
        return None
    return [numbers_left(event, here, following) for event, here, following in zip(guess, levels, levels[1:])]


def is_one_level(stretch):
    """Whether a STRETCH has just one number."""
    least, greatest = stretch
    return least is not None and least == greatest


def settled(guess, starts, readings):
    """The moments at which all pairs that go with them have one level; None if there is no pair."""
    levels = levels_by(guess, starts, readings)
    if levels is None:
        return None
    return tuple([moment for moment, stretch in enumerate(levels) if is_one_level(stretch)])


def tells_nothing(guess, starts, readings, place):
    """Whether the READINGS without the one at this place, with which some pair goes, tell it all the same."""
    moment, level = readings[place]
    others = [*readings[:place], *readings[place + 1:]]
    return levels_by(guess, starts, others)[moment] == (level, level)


def needless_readings(guess, starts, readings):
    """The places of the READINGS without each of which the same pairs go with the others; None if there is no pair."""
    if levels_by(guess, starts, readings) is None:
        return None
    return tuple([place for place in range(len(readings)) if tells_nothing(guess, starts, readings, place)])


def first_wrong(guess, starts, readings):
    """The least moment such that no pair goes with the READINGS up to it; None if some pair goes with all."""
    ahead = levels_ahead(guess, allowed_levels(guess, starts, readings))
    return len(ahead) if len(ahead) <= len(guess) else None


def reaches_of_asks(many, distance):
    """How many Ways can be told apart by 0, 1, .. asks, up to the first number that is not below many."""
    reaches = [1]
    while reaches[-1] < many:
        # One more ask: as many that end at the first number, as many at the last, and each between by itself.
        reaches.append(2 * reaches[-1] + distance - 1)
    return reaches


class Finder:
    """An unknown Way from one window of starts to one of ends; it changes by tell alone.

    From low to high it leads each start to start + shift, kept between first and
    last: so one shift is all that is not known.
    """

    def __init__(self, low, high, first, last):
        if not 0 <= last - first <= high - low:
            raise Gainsaid()
        self._first = first
        self._last = last
        # All shifts do the same if there is one end alone: then one of them stands for all.
        self._shifts = (last - high, first - low) if first < last else (0, 0)

    @property
    def many(self):
        """How many Ways there still can be."""
        least, greatest = self._shifts
        return greatest - least + 1

    @property
    def way(self):
        """The Way, None while there are several."""
        least, greatest = self._shifts
        return Way(least, self._first, self._last) if least == greatest else None

    def ends(self, start):
        """The least and the greatest number to which the Ways that still can be lead the start."""
        least, greatest = self._shifts
        return (held(start + least, self._first, self._last), held(start + greatest, self._first, self._last))

    def tell(self, start, end):
        """The Way leads this start to end; raises Gainsaid if none of those that still can be does."""
        if not self._first <= end <= self._last:
            raise Gainsaid()
        # A start at the first end can be lifted to it, one at the last end cut to it.
        least = end - start if end > self._first else None
        greatest = end - start if end < self._last else None
        shifts = meeting([self._shifts, (least, greatest)])
        if shifts is None:
            raise Gainsaid()
        self._shifts = shifts

    def asks(self):
        """The least number of starts that must be asked so that just one Way is left, whatever is told."""
        return len(reaches_of_asks(self.many, self._last - self._first)) - 1

    def ask(self):
        """A start of which to ask next so that no more asks are needed than asks tells; None if none is."""
        reaches = reaches_of_asks(self.many, self._last - self._first)
        if len(reaches) == 1:
            return None
        # As many shifts as the asks behind this one can tell apart lead this start to the first end.
        least, _ = self._shifts
        return self._first - least + 1 - reaches[-2]
