"""The errors that the package raises; each keeps its values in attributes of their names."""


class LevelError(ValueError):
    """Every error of the package is one of these."""


class BadText(LevelError):
    """A text that is not written as it must be; place is its first wrong piece."""

    def __init__(self, place):
        self.place = place


class BadLine(LevelError):
    """A line of a sheet that is no command."""

    def __init__(self, number):
        self.number = number


class Crossed(LevelError):
    """A floor or low that is above the cap or high."""

    def __init__(self, low, high):
        self.low = low
        self.high = high


class NoShift(LevelError):
    """A Way without a shift that is no constant."""


class NoPlace(LevelError):
    """A number that is no place or no moment there."""

    def __init__(self, place):
        self.place = place


class NothingDone(LevelError):
    """There is no deed to take back."""


class Unlike(LevelError):
    """Things that do not go together: unlike shifts, or not as many as needed."""


class NoStarts(LevelError):
    """A window of starts whose low is above its high."""

    def __init__(self, low, high):
        self.low = low
        self.high = high


class Gainsaid(LevelError):
    """What was told cannot all be so."""


class NoName(LevelError):
    """There is no account of this name."""

    def __init__(self, name):
        self.name = name


class Taken(LevelError):
    """There is an account of this name already."""

    def __init__(self, name):
        self.name = name


class Outside(LevelError):
    """A level that is not between its bounds."""

    def __init__(self, number):
        self.number = number


class Needed(LevelError):
    """The account cannot go: it is the heir of the one of this name."""

    def __init__(self, name):
        self.name = name


class Ring(LevelError):
    """With this heir an account would come twice in a chain."""

    def __init__(self, name):
        self.name = name


class NotBehind(LevelError):
    """The other account is not in the chain."""

    def __init__(self, other):
        self.other = other
