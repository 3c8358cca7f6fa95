"""Texts: EVENTs, ROWs and Ways as they are written, and read back."""

from boundedlevels.errors import BadText
from boundedlevels.plain import level_behind
from boundedlevels.ways import Way

SIGNS = {"floor": ">= ", "cap": "<= "}


def event_text(event):
    """The text of an EVENT."""
    word, number = event
    if word == "add":
        return f"{number:+d}"
    return f"{SIGNS[word]}{number}"


def row_text(row):
    """The text of a ROW."""
    return ", ".join([event_text(event) for event in row]) if row else "-"


def digits_in(text):
    """The number from 0 that is written in decimal digits without needless 0; None if it is none."""
    # Other signs are digits for Python, too.
    if text == "" or not all([sign in "0123456789" for sign in text]):
        return None
    return int(text) if text == "0" or text[0] != "0" else None


def number_in(text):
    """The number that is so written, with - ahead of it if it is below 0; None if it is none."""
    if not text.startswith("-"):
        return digits_in(text)
    number = digits_in(text[1:])
    return -number if number else None


def event_in(text):
    """The EVENT that is so written; None if it is none."""
    for word, sign in SIGNS.items():
        if text.startswith(sign):
            number = number_in(text[len(sign):])
            return None if number is None else (word, number)
    number = None
    if text.startswith("+"):
        number = digits_in(text[1:])
    elif text.startswith("-"):
        number = number_in(text)
    return None if number is None else ("add", number)


def row_in(text):
    """The ROW that is so written; raises BadText with the number of the first piece that is no EVENT."""
    if text == "-":
        return ()
    row = []
    for place, piece in enumerate(text.split(", ")):
        event = event_in(piece)
        if event is None:
            raise BadText(place)
        row.append(event)
    return tuple(row)


def parts_in(pieces):
    """The shift, floor and cap that are so written; raises BadText with the number of the first wrong piece."""
    parts = []
    for place, piece in enumerate(pieces[:3]):
        number = number_in(piece)
        if number is None and piece != "-":
            raise BadText(place)
        parts.append(number)
    if len(pieces) != 3:
        raise BadText(min(len(pieces), 3))
    return parts


def way_in(text):
    """The Way that is so written; raises BadText with the number of the piece that is wrong or lacks."""
    shift, floor, cap = parts_in(text.split(" "))
    if floor is not None and cap is not None and floor > cap:
        raise BadText(1)
    constant = floor is not None and floor == cap
    if constant != (shift is None):
        raise BadText(0)
    return Way(shift, floor, cap)


def change_text(ahead, behind):
    """How much a level was cut or lifted from one to the other; nothing if it was not."""
    if behind < ahead:
        return f" (cut {ahead - behind})"
    return f" (lifted {behind - ahead})" if behind > ahead else ""


def shown(row, start):
    """The lines of a ROW for a start: the start, then each EVENT with the level behind it."""
    lines = [str(start)]
    level = start
    for event in row:
        behind = level_behind(event, level)
        change = "" if event[0] == "add" else change_text(level, behind)
        lines.append(f"{event_text(event)}: {behind}{change}")
        level = behind
    return lines
