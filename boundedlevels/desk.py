"""A desk: commands in lines of text, each with its answer."""

from boundedlevels.account import Account
from boundedlevels.errors import BadLine, NoPlace, NothingDone
from boundedlevels.heaps import highest_heap, lowest_heap
from boundedlevels.late import lost_matters, without
from boundedlevels.leasts import alike, least_row
from boundedlevels.plain import end_of
from boundedlevels.texts import digits_in, event_in, number_in, row_text
from boundedlevels.woven import highest_woven, lowest_woven

LETTERS = "abcdefghijklmnopqrstuvwxyz"
# What stands behind the word of each command; an event is the rest of the line.
SHAPES = {
    "open": ("name", "number"), "do": ("name", "event"), "late": ("name", "place", "event"),
    "drop": ("name", "place"), "back": ("name",), "level": ("name",), "row": ("name",), "way": ("name",),
    "least": ("name",), "would": ("name", "place", "event"), "from": ("name", "number"), "lost": ("name", "place"),
    "heap": ("name",), "woven": ("name", "name"), "alike": ("name", "name"), "names": (),
}


def name_in(text):
    """The NAME that is so written; None if it is none."""
    return text if 1 <= len(text) <= 8 and all([sign in LETTERS for sign in text]) else None


def value_in(kind, text):
    """The value of this kind that is so written; None if it is none."""
    if kind == "name":
        return name_in(text)
    if kind == "number":
        return number_in(text)
    return digits_in(text) if kind == "place" else event_in(text)


def command_in(line):
    """The pair of the word and the list of the values of a command; None if the line is none."""
    word, *pieces = line.split(" ")
    if word not in SHAPES:
        return None
    shape = SHAPES[word]
    if shape[-1:] == ("event",):
        pieces = [*pieces[:len(shape) - 1], " ".join(pieces[len(shape) - 1:])]
    if len(pieces) != len(shape):
        return None
    values = [value_in(kind, piece) for kind, piece in zip(shape, pieces)]
    return None if None in values else (word, values)


def is_command(line):
    """Whether the line is a command."""
    return command_in(line) is not None


# One function for each command about Accounts that are there. What the Account raises is answered in one place.
def answer_do(account, event):
    return str(account.do(event))


def answer_late(account, place, event):
    return str(account.late(place, event))


def answer_drop(account, place):
    return str(account.drop(place))


def answer_back(account):
    return str(account.back())


def answer_level(account):
    return str(account.level)


def answer_row(account):
    return row_text(account.row)


def answer_way(account):
    return account.way.text


def answer_least(account):
    return row_text(least_row(account.way))


def answer_would(account, place, event):
    return str(account.would(place, event))


def answer_from(account, number):
    return str(account.from_start(number))


def answer_lost(account, place):
    if lost_matters(account.row, place) is None:
        return "never"
    return "no" if end_of(without(account.row, place), account.start) == account.level else "yes"


def answer_heap(account):
    least, greatest = lowest_heap(account.row), highest_heap(account.row)
    return f"{least(account.start)} {greatest(account.start)}"


def answer_woven(account, other):
    streams = (account.row, other.row)
    least, greatest = lowest_woven(streams), highest_woven(streams)
    return f"{least(account.start)} {greatest(account.start)}"


def answer_alike(account, other):
    return "yes" if alike(account.row, other.row) else "no"


ANSWERS = {
    "do": answer_do, "late": answer_late, "drop": answer_drop, "back": answer_back, "level": answer_level,
    "row": answer_row, "way": answer_way, "least": answer_least, "would": answer_would, "from": answer_from,
    "lost": answer_lost, "heap": answer_heap, "woven": answer_woven, "alike": answer_alike,
}


def answer_open(accounts, name, number):
    """Opens an Account, if there is none of this NAME."""
    if name in accounts:
        return "taken"
    accounts[name] = Account(number)
    return "done"


def answer_names(accounts):
    """The NAMEs of all Accounts."""
    return " ".join(sorted(accounts)) if accounts else "-"


def answer_there(accounts, word, values):
    """The answer to a command whose NAMEs are those of Accounts that must be there."""
    given = []
    for kind, value in zip(SHAPES[word], values):
        if kind == "name" and value not in accounts:
            return "no account"
        given.append(accounts[value] if kind == "name" else value)
    action = ANSWERS[word]
    try:
        return action(*given)
    except NoPlace:
        return "no place"
    except NothingDone:
        return "nothing done"


def answer(accounts, word, values):
    """The answer to one command; accounts is the dict from NAMEs to Accounts."""
    if word == "open":
        return answer_open(accounts, *values)
    if word == "names":
        return answer_names(accounts)
    return answer_there(accounts, word, values)


def answers(sheet):
    """The answers to the lines of a sheet; raises BadLine for the first line that is no command."""
    commands = [command_in(line) for line in sheet.split("\n")]
    if None in commands:
        raise BadLine(commands.index(None))
    accounts = {}
    told = []
    for word, values in commands:
        told.append(answer(accounts, word, values))
    return told
