"""EVENTs and ROWs, and what they do to one level, step by step."""

WORDS = ("add", "floor", "cap")


def is_number(thing):
    """Whether thing is a number; True and False are none, though Python counts them as int."""
    return isinstance(thing, int) and not isinstance(thing, bool)


def is_event(thing):
    """Whether thing is an EVENT: a tuple of one of the three words and a number."""
    return isinstance(thing, tuple) and len(thing) == 2 and thing[0] in WORDS and is_number(thing[1])


def is_row(thing):
    """Whether thing is a ROW: a tuple of EVENTs, maybe ()."""
    return isinstance(thing, tuple) and all([is_event(event) for event in thing])


def level_behind(event, level):
    """The level behind one EVENT."""
    word, number = event
    if word == "add":
        return level + number
    if word == "floor":
        return max(level, number)
    return min(level, number)


def end_of(row, start):
    """The level at which the ROW ends."""
    level = start
    for event in row:
        level = level_behind(event, level)
    return level
