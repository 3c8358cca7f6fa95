"""An account: a level with the ROW of all EVENTs that came to it, in which each of them can still be changed."""

from boundedlevels.errors import NothingDone
from boundedlevels.late import moved, without
from boundedlevels.plain import end_of
from boundedlevels.rows import check_moment, check_place
from boundedlevels.ways import starts_for, way_of


def with_event(row, place, event):
    """The ROW with this EVENT ahead of the one at this place, or behind all."""
    check_moment(row, place)
    return (*row[:place], tuple(event), *row[place:])


def exchanged(row, place, event):
    """The ROW with this EVENT in the place of the one there."""
    check_place(row, place)
    return (*row[:place], tuple(event), *row[place + 1:])


class Account:
    """A level that begins at start, and the ROW of the EVENTs that came to it."""

    def __init__(self, start):
        self._start = start
        self._row = ()
        # For each deed that can be taken back the start and the ROW ahead of it; neither ever changes by itself.
        self._past = []

    @property
    def start(self):
        """The level at which it begins."""
        return self._start

    @property
    def row(self):
        """The ROW of its EVENTs."""
        return self._row

    @property
    def level(self):
        """Where the ROW ends for the start."""
        return end_of(self._row, self._start)

    @property
    def way(self):
        """The Way of the ROW."""
        return way_of(self._row)

    def _become(self, start, row):
        """One deed: from now on this is the start and this the ROW; returns the level."""
        self._past.append((self._start, self._row))
        self._start, self._row = start, row
        return self.level

    def do(self, event):
        """The EVENT comes behind all others."""
        return self._become(self._start, with_event(self._row, len(self._row), event))

    def late(self, place, event):
        """The EVENT comes ahead of the one at this place."""
        return self._become(self._start, with_event(self._row, place, event))

    def drop(self, place):
        """The EVENT at this place never came."""
        return self._become(self._start, without(self._row, place))

    def change(self, place, event):
        """The EVENT came in the place of the one there."""
        return self._become(self._start, exchanged(self._row, place, event))

    def move(self, place, goal):
        """The EVENT at this place comes at the place goal."""
        return self._become(self._start, moved(self._row, place, goal))

    def close(self, moment):
        """The EVENTs ahead of this moment are put away: the level at it is the start then."""
        return self._become(self[moment], self._row[moment:])

    def back(self):
        """Takes the last deed back that is not taken back yet; returns the level."""
        if not self._past:
            raise NothingDone()
        self._start, self._row = self._past.pop()
        return self.level

    def would(self, place, event):
        """The level that late would lead to; changes nothing."""
        return end_of(with_event(self._row, place, event), self._start)

    def from_start(self, start):
        """The level if it had begun there."""
        return end_of(self._row, start)

    def open_starts(self):
        """The STRETCH of the starts from which it would be at the level it is at."""
        return starts_for(self.way, self.level)

    def twin(self):
        """An Account in the same state, with the same deeds to take back, that shares nothing with this one."""
        twin = Account(self._start)
        twin._row = self._row
        twin._past = list(self._past)
        return twin

    def __len__(self):
        return len(self._row)

    def __getitem__(self, at):
        check_moment(self._row, at)
        return end_of(self._row[:at], self._start)

    def __contains__(self, x):
        return tuple(x) in self._row

    def __iter__(self):
        raise TypeError("an Account is not iterated over")

    def __eq__(self, other):
        return isinstance(other, Account) and self._start == other._start and self._row == other._row
