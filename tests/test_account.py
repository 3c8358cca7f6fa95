"""The class Account: each deed against a plain start and ROW of the test's own."""

import random
import unittest

from boundedlevels.account import Account
from boundedlevels.errors import NoPlace, NothingDone
from boundedlevels.plain import is_row
from boundedlevels.ways import Way
from reckoning import FAR, HUGE, crossing_starts, end, listed, random_row, stepped, stretch_fault

ROW = (("add", 8), ("add", -6), ("cap", 10), ("add", -4))


def put(row, place, event):
    return (*row[:place], event, *row[place:])


def gone(row, place):
    return row[:place] + row[place + 1:]


def filled(start, row):
    account = Account(start)
    for event in row:
        account.do(event)
    return account


class Plain:
    """What an Account must be: a start, a ROW, and the states that can come back."""

    def __init__(self, start):
        self.start, self.row, self.past = start, (), []

    def become(self, start, row):
        self.past.append((self.start, self.row))
        self.start, self.row = start, row

    def deed(self, name, arguments):
        """Does it; returns the number of a NoPlace, None if there is none."""
        many = len(self.row)
        if name == "do":
            self.become(self.start, (*self.row, arguments[0]))
        elif name == "late":
            if not 0 <= arguments[0] <= many:
                return arguments[0]
            self.become(self.start, put(self.row, *arguments))
        elif name == "drop":
            if not 0 <= arguments[0] < many:
                return arguments[0]
            self.become(self.start, gone(self.row, arguments[0]))
        elif name == "change":
            if not 0 <= arguments[0] < many:
                return arguments[0]
            self.become(self.start, put(gone(self.row, arguments[0]), *arguments))
        elif name == "move":
            for place in arguments:
                if not 0 <= place < many:
                    return place
            self.become(self.start, put(gone(self.row, arguments[0]), arguments[1], self.row[arguments[0]]))
        elif name == "close":
            if not 0 <= arguments[0] <= many:
                return arguments[0]
            self.become(stepped(self.row, self.start)[arguments[0]], self.row[arguments[0]:])
        return None


def drawn_deed(rng, many, reach):
    """A deed with its arguments; places from below 0 to beyond the end."""
    event = random_row(rng, 1, reach)[0]
    name = rng.choice(("do", "do", "late", "late", "drop", "change", "move", "close"))
    place, goal = rng.randint(-2, many + 2), rng.randint(-2, many + 2)
    if name == "close":
        place = rng.choice((-1, 0, 0, 1, 1, many + 1))
    return name, {"do": (event,), "late": (place, event), "drop": (place,), "change": (place, event),
                  "move": (place, goal), "close": (place,)}[name]


class Case(unittest.TestCase):
    def check(self, account, plain):
        levels = stepped(plain.row, plain.start)
        self.assertEqual((account.start, account.row, account.level), (plain.start, plain.row, levels[-1]))
        self.assertIs(is_row(account.row), True)
        self.assertEqual([account[moment] for moment in range(len(plain.row) + 1)], levels)
        self.assertEqual(len(account), len(plain.row))
        for start in (0, plain.start, *FAR[2:6]):
            self.assertEqual(account.from_start(start), end(plain.row, start))
            self.assertEqual(account.way(start), end(plain.row, start))


class Deeds(Case):
    def test_drawn_deeds(self):
        rng = random.Random("deeds")
        refused = 0
        for reach in (2, 9, HUGE):
            for _ in range(25):
                start = rng.randint(-reach, reach)
                account, plain = Account(start), Plain(start)
                for _ in range(30):
                    if rng.random() < 0.2:
                        self.take_back(account, plain)
                    else:
                        refused += self.act(account, plain, *drawn_deed(rng, len(plain.row), reach))
                    self.check(account, plain)
                while plain.past:
                    self.take_back(account, plain)
                    self.check(account, plain)
                self.take_back(account, plain)
        self.assertGreater(refused, 200)

    def act(self, account, plain, name, arguments):
        number = plain.deed(name, arguments)
        if number is not None:
            with self.assertRaises(NoPlace) as caught:
                getattr(account, name)(*arguments)
            self.assertEqual(caught.exception.place, number)
            return 1
        given = tuple(listed(part) for part in arguments) if len(plain.row) % 2 else arguments
        self.assertEqual(getattr(account, name)(*given), end(plain.row, plain.start))
        return 0

    def take_back(self, account, plain):
        if plain.past:
            plain.start, plain.row = plain.past.pop()
            self.assertEqual(account.back(), end(plain.row, plain.start))
        else:
            with self.assertRaises(NothingDone):
                account.back()
            self.check(account, plain)

    def test_deeds_that_change_nothing_are_deeds(self):
        account = filled(5, (("add", 1), ("add", 1)))
        deeds = (lambda: account.change(0, ("add", 1)), lambda: account.move(0, 1), lambda: account.move(1, 1),
                 lambda: account.close(0))
        for deed in deeds:
            self.assertEqual((deed(), account.row, account.start), (7, (("add", 1), ("add", 1)), 5))
        for _ in deeds:
            self.assertEqual((account.back(), account.row), (7, (("add", 1), ("add", 1))))
        self.assertEqual([account.back(), account.back()], [6, 5])
        with self.assertRaises(NothingDone):
            account.back()

    def test_by_names(self):
        account = Account(start=5)
        self.assertEqual(account.do(event=("add", 8)), 13)
        self.assertEqual(account.late(event=["cap", 2], place=0), 10)
        self.assertEqual(account.would(event=["cap", 1], place=0), 9)
        self.assertEqual(account.change(event=("cap", 3), place=0), 11)
        self.assertEqual(account.move(goal=0, place=1), 3)
        self.assertEqual(account.drop(place=0), 3)
        self.assertEqual(account.close(moment=1), 3)
        self.assertEqual(account.from_start(start=-9), -9)
        self.assertEqual((account.start, account.row), (3, ()))

    def test_close(self):
        account = filled(5, ROW)
        self.assertEqual((account.close(0), account.start, account.row), (3, 5, ROW))
        self.assertEqual((account.close(2), account.start, account.row), (3, 7, ROW[2:]))
        self.assertEqual((account.close(2), account.start, account.row), (3, 3, ()))
        self.assertEqual((account.close(0), account.start, account.row, len(account), account[0]), (3, 3, (), 0, 3))
        self.assertEqual(([account.back() for _ in range(4)], account.start, account.row), ([3] * 4, 5, ROW))

    def test_no_place(self):
        for row in (ROW, ROW[:1], ()):
            account, many = filled(5, row), len(row)
            event = ("add", 1)
            wrongs = [("late", (place, event), place) for place in (-1, many + 1, HUGE, -many - 1)]
            wrongs += [("would", (place, event), place) for place in (-1, many + 1, -HUGE)]
            wrongs += [("drop", (place,), place) for place in (-1, many, -many - 1, HUGE)]
            wrongs += [("change", (place, event), place) for place in (-1, many, -HUGE)]
            wrongs += [("close", (place,), place) for place in (-1, many + 1, HUGE)]
            wrongs += [("__getitem__", (place,), place) for place in (-1, many + 1, -many - 1, HUGE)]
            wrongs += [("move", (place, goal), place) for place in (-1, many, HUGE) for goal in (-1, 0, many, many + 1)]
            wrongs += [("move", (place, goal), goal) for place in range(many) for goal in (-1, many, -HUGE)]
            for name, arguments, number in wrongs:
                with self.subTest(name=name, arguments=arguments), self.assertRaises(NoPlace) as caught:
                    getattr(account, name)(*arguments)
                self.assertEqual(caught.exception.place, number)
                self.assertEqual((account.start, account.row), (5, row))
            # What raised is no deed.
            for many in range(len(row))[::-1]:
                account.back()
                self.assertEqual(len(account), many)
            with self.assertRaises(NothingDone):
                account.back()


class Questions(Case):
    def test_would(self):
        rng = random.Random("would")
        for reach in (3, HUGE):
            for _ in range(30):
                row, start = random_row(rng, rng.randint(0, 7), reach), rng.randint(-reach, reach)
                account = filled(start, row)
                for place in range(len(row) + 1):
                    event = random_row(rng, 1, reach)[0]
                    told = account.would(place, listed(event))
                    self.assertEqual(told, end(put(row, place, event), start))
                    self.assertEqual((account.row, account.start), (row, start))
                    self.assertEqual(filled(start, row).late(place, event), told)

    def test_open_starts(self):
        rng = random.Random("open")
        for reach in (3, HUGE):
            for _ in range(60):
                row, start = random_row(rng, rng.randint(0, 7), reach), rng.randint(-reach, reach)
                level = end(row, start)
                starts = {*crossing_starts(row, level), start - 1, start, start + 1}
                fault = stretch_fault(filled(start, row).open_starts(), starts, lambda at: end(row, at) == level)
                self.assertIsNone(fault, (row, start))
        self.assertEqual(Account(5).open_starts(), (5, 5))
        self.assertEqual(filled(0, (("floor", 3), ("cap", 3))).open_starts(), (None, None))

    def test_events_in_it(self):
        account = filled(5, ROW)
        for event in ROW:
            self.assertIs(event in account, True)
            self.assertIs(list(event) in account, True)
            self.assertIs(event not in account, False)
        for event in (("add", 6), ("cap", 8), ("floor", 10), ("add", 10), ["cap", -4]):
            self.assertIs(event in account, False)
        self.assertIs(("add", 0) in Account(5), False)

    def test_numbers_of_thirty_digits(self):
        account = filled(HUGE, (("add", HUGE), ("cap", HUGE + 1), ("add", -HUGE), ("floor", 2)) * 15)
        self.assertEqual((account.level, len(account), account[1], account[2]), (2, 60, 2 * HUGE, HUGE + 1))
        self.assertEqual((account.way, account.from_start(-HUGE)), (Way(None, 2, 2), 2))
        self.assertEqual(account.would(60, ("floor", HUGE)), HUGE)

    def test_no_setters(self):
        account = filled(5, ROW)
        for name in ("start", "row", "level", "way"):
            with self.subTest(name=name):
                with self.assertRaises(AttributeError):
                    setattr(account, name, 1)
                with self.assertRaises(AttributeError):
                    delattr(account, name)
        self.assertEqual((account.start, account.row, account.level, account.way.text), (5, ROW, 3, "-2 - 6"))

    def test_no_iteration(self):
        for account in (Account(5), filled(5, ROW)):
            for call in (iter, list, tuple, sum, lambda it: [at for at in it], lambda it: dict(zip(it, it))):
                with self.assertRaises(TypeError):
                    call(account)

    def test_kinds(self):
        account = filled(5, ROW)
        self.assertEqual([type(account.row), type(account.way), type(account.open_starts()), type(account.level)],
                         [tuple, Way, tuple, int])
        self.assertEqual((Account(5).way, Account(5).row, Account(5).level), (Way(0), (), 5))

    def test_the_same_question_twice(self):
        account = filled(5, ROW)
        asked = [lambda: account.start, lambda: account.row, lambda: account.level, lambda: account.way.text,
                 lambda: account.would(1, ("cap", 2)), lambda: account.from_start(9), account.open_starts,
                 lambda: len(account), lambda: account[2], lambda: ROW[0] in account, lambda: account == filled(5, ROW)]
        told = [question() for question in asked]
        self.assertEqual([question() for question in asked[::-1]][::-1], told)
        # Questions are no deeds.
        self.assertEqual((account.back(), account.row), (7, ROW[:3]))

    def test_what_is_handed_in_is_copied(self):
        event = ["add", 3]
        account = Account(5)
        account.do(event)
        account.late(0, event)
        account.change(0, event)
        event[1] = 99
        self.assertEqual((account.row, account.level, event), ((("add", 3), ("add", 3)), 11, ["add", 99]))
        account.back()
        self.assertEqual(account.row, (("add", 3), ("add", 3)))


class Twins(Case):
    def test_twin(self):
        rng = random.Random("twin")
        for _ in range(30):
            account, plain = Account(3), Plain(3)
            for _ in range(12):
                name, arguments = drawn_deed(rng, len(plain.row), 5)
                if plain.deed(name, arguments) is None:
                    getattr(account, name)(*arguments)
            twin = account.twin()
            self.assertIsNot(twin, account)
            self.assertIs(type(twin), Account)
            self.assertIs(twin == account, True)
            other = Plain(3)
            other.start, other.row, other.past = plain.start, plain.row, list(plain.past)
            # Deeds of one and of the other, each with its own to take back.
            for one, state in ((account, plain), (twin, other), (account, plain)):
                one.do(("add", 7))
                state.deed("do", (("add", 7),))
                self.check(account, plain)
                self.check(twin, other)
            for one, state in ((twin, other), (account, plain)):
                while state.past:
                    state.start, state.row = state.past.pop()
                    self.assertEqual(one.back(), end(state.row, state.start))
                    self.check(account, plain)
                    self.check(twin, other)
                with self.assertRaises(NothingDone):
                    one.back()

    def test_equality(self):
        accounts = [Account(5), Account(6), filled(5, ROW), filled(6, ROW), filled(5, ROW[:2]), filled(5, ROW[::-1]),
                    filled(HUGE, ROW)]
        for one in range(len(accounts)):
            for other in range(len(accounts)):
                self.assertIs(accounts[one] == accounts[other], one == other)
                self.assertIs(accounts[one] != accounts[other], one != other)
        # What was done and taken back does not count, only the start and the ROW.
        account = filled(5, ROW)
        account.drop(0)
        self.assertIs(account == filled(5, ROW[1:]), True)
        account.back()
        self.assertIs(account == filled(5, ROW), True)
        account.close(1)
        self.assertIs(account == filled(13, ROW[1:]), True)
        self.assertIs(account != filled(13, ROW[1:]), False)

    def test_equality_beside_what_is_no_account(self):
        class Look:
            start, row, level = 5, (), 5
            _start, _row, _past = 5, (), []

        account = Account(5)
        for thing in (None, True, 5, "5", (), (5, ()), [5], Way(0), Look(), object()):
            self.assertIs(account == thing, False)
            self.assertIs(account != thing, True)
            self.assertIs(thing == account, False)
            self.assertIs(thing != account, True)


if __name__ == "__main__":
    unittest.main()
