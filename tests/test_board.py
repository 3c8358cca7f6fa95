"""The class Board: drawn deeds against accounts of the test's own."""

import copy
import itertools
import random
import unittest

from boundedlevels import errors
from boundedlevels.board import Board
from boundedlevels.ways import Way
from reckoning import HUGE, inside, listed

NAMES = ("a", "b", "cup", "sink", "tank", "zzzzzzzz")


class Wrong(Exception):
    """An error that is expected: the name of its class and its values."""

    def __init__(self, name, *values):
        self.told = (name, *values)


class Plain:
    """What a Board must be: a dict from NAMEs to lists [level, low, high, heir], and the states that can come back."""

    def __init__(self):
        self.accounts, self.past = {}, []

    def find(self, name):
        if name not in self.accounts:
            raise Wrong("NoName", name)
        return self.accounts[name]

    def chain(self, name):
        self.find(name)
        names = [name]
        while self.accounts[names[-1]][3] is not None:
            names.append(self.accounts[names[-1]][3])
        return tuple(names)

    def keep(self):
        self.past.append(copy.deepcopy(self.accounts))

    def pour(self, name, number, sign):
        """Hands so much on along the chain; returns what is left."""
        for other in self.chain(name):
            account = self.accounts[other]
            end = account[2] if sign > 0 else account[1]
            room = number if end is None else (end - account[0]) * sign
            moved = room if room < number else number
            account[0] += moved * sign
            number -= moved
        return number

    def admit(self, name, level, low=None, high=None, heir=None):
        if name in self.accounts:
            raise Wrong("Taken", name)
        if low is not None and high is not None and low > high:
            raise Wrong("Crossed", low, high)
        if not inside((low, high), level):
            raise Wrong("Outside", level)
        if heir is not None:
            self.find(heir)
        self.keep()
        self.accounts[name] = [level, low, high, heir]

    def shut(self, name):
        self.find(name)
        heirs = sorted(other for other, account in self.accounts.items() if account[3] == name)
        if heirs:
            raise Wrong("Needed", heirs[0])
        self.keep()
        del self.accounts[name]

    def give(self, name, number):
        self.find(name)
        self.keep()
        return self.pour(name, number, 1)

    def call(self, name, number):
        self.find(name)
        self.keep()
        return self.pour(name, number, -1)

    def rule(self, name, low, high):
        account = self.find(name)
        if low is not None and high is not None and low > high:
            raise Wrong("Crossed", low, high)
        self.keep()
        level = account[0]
        account = self.accounts[name]
        account[1:3] = low, high
        if low is not None and level < low:
            account[0] = low
        if high is not None and level > high:
            account[0] = high
        return account[0] - level

    def leave_to(self, name, heir):
        self.find(name)
        if heir is not None and name in self.chain(heir):
            raise Wrong("Ring", heir)
        self.keep()
        self.accounts[name][3] = heir

    def back(self):
        if not self.past:
            raise Wrong("NothingDone")
        self.accounts = self.past.pop()


def told_by(thing, name, arguments):
    """What a call returns, or the class and the values of what it raises."""
    try:
        return ("returns", getattr(thing, name)(*arguments))
    except Wrong as wrong:
        return ("raises", *wrong.told)
    except errors.LevelError as error:
        return ("raises", error.__class__.__name__, *vars(error).values())


def drawn_bounds(rng, reach):
    low, high = rng.randint(-reach, reach), rng.randint(-reach, reach)
    if rng.random() < 0.85 and low > high:
        low, high = high, low
    return rng.choice(((low, high), (low, high), (low, None), (None, high), (None, None)))


def drawn_deed(rng, reach, names=NAMES):
    name, other = rng.choice(names), rng.choice((None, *names))
    low, high = drawn_bounds(rng, reach)
    deed = rng.choice(("admit", "admit", "admit", "shut", "give", "give", "call", "call", "rule", "leave_to",
                       "leave_to", "back"))
    if deed == "admit":
        level = rng.randint(-reach, reach)
        if rng.random() < 0.8:
            level = max([level] + [low] * (low is not None))
            level = min([level] + [high] * (high is not None))
        return deed, (name, level, low, high, other)
    return deed, {"shut": (name,), "give": (name, rng.randint(0, 2 * reach)), "call": (name, rng.randint(0, 2 * reach)),
                  "rule": (name, low, high), "leave_to": (name, other), "back": ()}[deed]


def drawn_boards(seed, count, deeds=25, reaches=(3, 8, HUGE)):
    """So many pairs of a Board and what it must be, with chains among them."""
    rng = random.Random(seed)
    for reach in reaches:
        for _ in range(count):
            board, plain = Board(), Plain()
            for name in rng.sample(NAMES, 4):
                heir = rng.choice((None, *sorted(plain.accounts), *sorted(plain.accounts)))
                low, high = sorted(rng.randint(-reach, reach) for _ in range(2))
                low, high = rng.choice(((low, high), (low, high), (low, None), (None, high)))
                level = low if high is None else high if low is None else rng.randint(low, high)
                board.admit(name, level, low, high, heir)
                plain.admit(name, level, low, high, heir)
            for _ in range(rng.randint(0, deeds)):
                deed, arguments = drawn_deed(rng, reach)
                told_by(board, deed, arguments)
                told_by(plain, deed, arguments)
            yield rng, reach, board, plain


class Case(unittest.TestCase):
    def check(self, board, plain):
        self.assertEqual((board.names, len(board), board.deeds),
                         (tuple(sorted(plain.accounts)), len(plain.accounts), len(plain.past)))
        for name in NAMES:
            self.assertIs(name in board, name in plain.accounts)
        for name, (level, low, high, heir) in plain.accounts.items():
            self.assertEqual((board[name], board.bounds(name), board.heir_of(name), board.chain(name)),
                             (level, (low, high), heir, plain.chain(name)))


class Deeds(Case):
    def test_drawn_deeds(self):
        seen = set()
        for rng, reach, board, plain in drawn_boards("deeds", 25, 0):
            for _ in range(45):
                deed, arguments = drawn_deed(rng, reach)
                expected = told_by(plain, deed, arguments)
                self.assertEqual(told_by(board, deed, arguments), expected, (deed, arguments))
                seen.add((deed, expected[1] if expected[0] == "raises" else "returns"))
                self.check(board, plain)
            while plain.past:
                self.assertEqual(told_by(board, "back", ()), told_by(plain, "back", ()))
                self.check(board, plain)
            self.assertEqual(told_by(board, "back", ()), ("raises", "NothingDone"))
            self.check(board, plain)
        self.assertEqual(seen, {
            *[(deed, "returns") for deed in ("admit", "shut", "give", "call", "rule", "leave_to", "back")],
            *[(deed, "NoName") for deed in ("admit", "shut", "give", "call", "rule", "leave_to")],
            ("admit", "Taken"), ("admit", "Crossed"), ("admit", "Outside"), ("shut", "Needed"), ("rule", "Crossed"),
            ("leave_to", "Ring")})

    def test_what_is_left_out(self):
        board = Board()
        self.assertIsNone(board.admit("a", -HUGE))
        self.assertIsNone(board.admit("b", 5, 0))
        self.assertIsNone(board.admit("c", 5, high=5))
        self.assertIsNone(board.admit("d", 0, heir="a"))
        self.assertIsNone(board.admit(heir="c", high=9, low=-9, level=0, name="e"))
        self.assertEqual([board.bounds(name) for name in board.names],
                         [(None, None), (0, None), (None, 5), (None, None), (-9, 9)])
        self.assertEqual([board.heir_of(name) for name in board.names], [None, None, None, "a", "c"])

    def test_by_names(self):
        board = Board()
        board.admit("a", 0, 0, 9)
        board.admit("b", 0, 0, 9)
        self.assertIsNone(board.leave_to(heir="b", name="a"))
        self.assertEqual((board.give(number=30, name="a"), board.call(number=4, name="b")), (12, 0))
        self.assertEqual(board.rule(high=7, low=6, name="a"), -2)
        self.assertEqual((board.bounds(name="a"), board.heir_of(name="a"), board.chain(name="a")),
                         ((6, 7), "b", ("a", "b")))
        self.assertEqual((board.room(name="a"), board.stock(name="a")), (4, 6))
        self.assertEqual(board.foresee(numbers=[3, -2], name="a"), (6, 7))
        self.assertEqual([way.text for way in board.ways(numbers=[3], name="a")], ["3 6 7", "3 6 16"])
        self.assertEqual(board.least_gift(level=6, other="b", name="a"), 1)
        self.assertEqual(board.least_call(level=4, other="b", name="a"), 2)
        self.assertIsNone(board.leave_to(name="a", heir=None))
        self.assertIsNone(board.shut(name="b"))
        self.assertEqual(board.names, ("a",))

    def test_order_of_checks(self):
        board = Board()
        board.admit("a", 0, -5, 5)
        board.admit("b", 0, heir="a")
        board.admit("c", 0, heir="b")
        board.admit("aa", 0, heir="a")
        wrongs = (
            ("admit", ("a", 9, 5, 0, "x"), "Taken", "a"), ("admit", ("x", 9, 5, 0, "y"), "Crossed", 5, 0),
            ("admit", ("x", 9, 0, 5, "y"), "Outside", 9), ("admit", ("x", -1, 0, None, "y"), "Outside", -1),
            ("admit", ("x", 1, None, 0, "y"), "Outside", 1), ("admit", ("x", 3, 0, 5, "y"), "NoName", "y"),
            ("admit", ("x", 3, 0, 5, "x"), "NoName", "x"), ("shut", ("x",), "NoName", "x"),
            ("shut", ("a",), "Needed", "aa"), ("shut", ("b",), "Needed", "c"), ("give", ("x", 1), "NoName", "x"),
            ("call", ("x", 1), "NoName", "x"), ("rule", ("x", 5, 0), "NoName", "x"),
            ("rule", ("a", 5, 4), "Crossed", 5, 4), ("leave_to", ("x", "y"), "NoName", "x"),
            ("leave_to", ("x", None), "NoName", "x"), ("leave_to", ("a", "y"), "NoName", "y"),
            ("leave_to", ("a", "a"), "Ring", "a"), ("leave_to", ("a", "b"), "Ring", "b"),
            ("leave_to", ("a", "c"), "Ring", "c"), ("leave_to", ("b", "c"), "Ring", "c"),
            ("__getitem__", ("x",), "NoName", "x"), ("bounds", ("x",), "NoName", "x"),
            ("heir_of", ("x",), "NoName", "x"), ("chain", ("x",), "NoName", "x"), ("room", ("x",), "NoName", "x"),
            ("stock", ("x",), "NoName", "x"), ("foresee", ("x", ()), "NoName", "x"), ("ways", ("x", ()), "NoName", "x"),
            ("least_gift", ("x", "y", 0), "NoName", "x"), ("least_call", ("x", "a", 0), "NoName", "x"),
            ("least_gift", ("b", "c", -9), "NotBehind", "c"), ("least_call", ("b", "c", 9), "NotBehind", "c"),
            ("least_gift", ("b", "x", -9), "NotBehind", "x"), ("least_call", ("a", "x", 9), "NotBehind", "x"),
        )
        kept = board.twin()
        for name, arguments, error, *values in wrongs:
            with self.subTest(name=name, arguments=arguments):
                self.assertEqual(told_by(board, name, arguments), ("raises", error, *values))
                self.assertEqual((board == kept, board.deeds), (True, 4))

    def test_deeds_that_change_nothing_count(self):
        board = Board()
        board.admit("a", 3, 3, 3)
        deeds = ((("give", ("a", 0)), 0), (("call", ("a", 0)), 0), (("give", ("a", 9)), 9), (("call", ("a", 9)), 9),
                 (("rule", ("a", 3, 3)), 0), (("leave_to", ("a", None)), None))
        for count, ((name, arguments), told) in enumerate(deeds, 2):
            self.assertEqual((told_by(board, name, arguments), board.deeds, board["a"]), (("returns", told), count, 3))
        for count in range(len(deeds), -1, -1):
            self.assertIs("a" in board, True)
            self.assertEqual((board.back(), board.deeds), (None, count))
        self.assertEqual((board.names, len(board)), ((), 0))
        with self.assertRaises(errors.NothingDone):
            board.back()

    def test_rule_hands_nothing_on(self):
        board = Board()
        board.admit("b", 0, -9, 9)
        board.admit("a", 5, 0, 9, "b")
        self.assertEqual((board.rule("a", 0, 2), board["a"], board["b"]), (-3, 2, 0))
        self.assertEqual((board.rule("a", 7, None), board["a"], board["b"]), (5, 7, 0))
        self.assertEqual((board.rule("a", None, None), board["a"], board.bounds("a")), (0, 7, (None, None)))
        self.assertEqual((board.heir_of("a"), board.rule("a", -HUGE, -HUGE), board["a"]), ("b", -HUGE - 7, -HUGE))
        for level in (7, 7, 2, 5):
            board.back()
            self.assertEqual(board["a"], level)

    def test_twelve_accounts_in_a_chain(self):
        board, heir = Board(), None
        for name in "lkjihgfedcba":
            board.admit(name, 0, -HUGE, HUGE, heir)
            heir = name
        self.assertEqual((board.chain("a"), board.room("a"), board.stock("a")),
                         (tuple("abcdefghijkl"), 12 * HUGE, 12 * HUGE))
        self.assertEqual((board.give("a", HUGE), board.give("a", HUGE // 2), board["b"]), (0, 0, HUGE // 2))
        self.assertEqual((board.call("c", HUGE), board["c"], board["d"]), (0, -HUGE, 0))
        self.assertEqual((board.least_gift("a", "l", 1), board.least_call("a", "l", 0)), (10 * HUGE + HUGE // 2 + 1, 0))
        self.assertEqual(board.least_call("a", "l", -1), 11 * HUGE + HUGE // 2 + 1)
        with self.assertRaises(errors.Ring):
            board.leave_to("l", "a")


class Questions(Case):
    def test_room_and_stock(self):
        for rng, reach, board, plain in drawn_boards("room", 30):
            for name in plain.accounts:
                for told, side, sign, deed in ((board.room(name), 2, 1, "give"), (board.stock(name), 1, -1, "call")):
                    ends = [plain.accounts[other][side] for other in plain.chain(name)]
                    if None in ends:
                        self.assertIsNone(told)
                        self.assertEqual(getattr(board.twin(), deed)(name, 10 ** 33), 0)
                    else:
                        self.assertEqual(getattr(board.twin(), deed)(name, told), 0)
                        self.assertEqual(getattr(board.twin(), deed)(name, told + 1), 1)
            self.check(board, plain)

    def test_foresee(self):
        for rng, reach, board, plain in drawn_boards("foresee", 30):
            for name in sorted(plain.accounts):
                numbers = tuple(rng.choice((0, rng.randint(-reach, reach))) for _ in range(rng.choice((0, 3, 40))))
                told = board.foresee(name, numbers)
                ways = board.ways(name, numbers)
                before = [board[other] for other in board.chain(name)]
                self.assertEqual((type(told), type(ways)), (tuple, tuple))
                self.assertEqual(board.foresee(name, listed(numbers)), told)
                self.assertEqual(board.ways(name, listed(numbers)), ways)
                twin = board.twin()
                for number in numbers:
                    twin.give(name, number) if number >= 0 else twin.call(name, -number)
                self.assertEqual(told, tuple(twin[other] for other in board.chain(name)))
                self.assertEqual([way(total) for way, total in zip(ways, itertools.accumulate(before))],
                                 list(itertools.accumulate(told)))
            self.check(board, plain)

    def test_ways(self):
        for rng, reach, board, plain in drawn_boards("ways", 30):
            for name in sorted(plain.accounts):
                numbers = tuple(rng.randint(-reach, reach) for _ in range(rng.randint(0, 5)))
                ways = board.ways(name, numbers)
                chain = plain.chain(name)
                self.assertEqual([type(way) for way in ways], [Way] * len(chain))
                for many, way in enumerate(ways, 1):
                    lows = [plain.accounts[other][1] for other in chain[:many]]
                    highs = [plain.accounts[other][2] for other in chain[:many]]
                    low = None if None in lows else sum(lows)
                    high = None if None in highs else sum(highs)
                    self.assertEqual(way, self.way_by_steps(numbers, low, high))
            self.check(board, plain)

    def way_by_steps(self, numbers, low, high):
        way = Way(0)
        for number in numbers:
            way = way >> Way(number) >> (Way(0, low, high) if low is None or low != high else Way(None, low, high))
        return way

    def test_no_numbers(self):
        board = Board()
        board.admit("b", 3, 3, 3)
        board.admit("a", 0, 0, None, "b")
        self.assertEqual((board.foresee("a", ()), board.ways("a", [])), ((0, 3), (Way(0), Way(0))))
        self.assertEqual([way.text for way in board.ways("b", (0,))], ["- 3 3"])
        self.assertEqual([way.text for way in board.ways("a", (0, -4))], ["-4 0 -", "-4 3 -"])

    def test_least_gift_and_call(self):
        kinds = set()
        for rng, reach, board, plain in drawn_boards("least", 25):
            for name in sorted(plain.accounts):
                for other in NAMES:
                    level = rng.randint(-reach, reach)
                    for question, deed, sign in (("least_gift", "give", 1), ("least_call", "call", -1)):
                        expected = told_by(board, question, (name, other, level))
                        if other not in plain.chain(name):
                            self.assertEqual(expected, ("raises", "NotBehind", other))
                        else:
                            self.assertEqual(expected[0], "returns")
                            kinds.add(self.check_least(board, (name, other, level), expected[1], deed, sign))
            self.check(board, plain)
        self.assertEqual(kinds, {None, "nothing", "something"})

    def check_least(self, board, asked, told, deed, sign):
        """By trying: so much does, one less does not; very much does not if it is None."""
        name, other, level = asked

        def does(number):
            twin = board.twin()
            getattr(twin, deed)(name, number)
            return twin[other] >= level if sign > 0 else twin[other] <= level
        if told is None:
            self.assertIs(does(10 ** 35), False, asked)
            return None
        self.assertIs(does(told), True, asked)
        if told > 0:
            self.assertIs(does(told - 1), False, asked)
        return "something" if told > 0 else "nothing"

    def test_least_where_one_ahead_has_no_end(self):
        board = Board()
        board.admit("c", 0)
        board.admit("b", 0, None, 5, "c")
        board.admit("a", 0, -5, None, "b")
        self.assertEqual([board.least_gift("a", "c", level) for level in (-1, 0, 1)], [0, 0, None])
        self.assertEqual([board.least_call("a", "c", level) for level in (1, 0, -1)], [0, 0, None])
        self.assertEqual((board.least_gift("b", "c", 1), board.least_call("a", "b", -1)), (6, 6))
        self.assertEqual([board.least_gift("a", "a", HUGE), board.least_call("a", "a", -5),
                          board.least_call("a", "a", -6)], [HUGE, 5, None])

    def test_errors_of_what_is_not_there(self):
        board = Board()
        self.assertEqual((board.names, board.deeds, len(board), "a" in board), ((), 0, 0, False))
        board.admit("a", 0)
        board.shut("a")
        self.assertEqual((board.names, board.deeds, len(board), "a" in board), ((), 2, 0, False))
        with self.assertRaises(errors.NoName):
            board["a"]
        board.back()
        self.assertEqual((board["a"], board.chain("a")), (0, ("a",)))

    def test_the_same_question_twice(self):
        for rng, reach, board, plain in drawn_boards("twice", 10):
            for name in board.names:
                numbers, level = [rng.randint(-reach, reach) for _ in range(4)], rng.randint(-reach, reach)
                asked = [lambda: board[name], lambda: board.bounds(name), lambda: board.heir_of(name),
                         lambda: board.chain(name), lambda: board.room(name), lambda: board.stock(name),
                         lambda: board.foresee(name, numbers), lambda: [way.text for way in board.ways(name, numbers)],
                         lambda: board.least_gift(name, name, level), lambda: board.least_call(name, name, level),
                         lambda: name in board, lambda: len(board), lambda: board.names, lambda: board.deeds]
                kept = list(numbers)
                told = [question() for question in asked]
                self.assertEqual([question() for question in asked[::-1]][::-1], told)
                self.assertEqual(numbers, kept)
            self.check(board, plain)

    def test_no_setters(self):
        board = Board()
        board.admit("a", 0)
        for name in ("names", "deeds"):
            with self.subTest(name=name), self.assertRaises(AttributeError):
                setattr(board, name, 1)
        self.assertEqual((board.names, board.deeds), (("a",), 1))

    def test_no_iteration(self):
        board, filled = Board(), Board()
        filled.admit("a", 0)
        for call in (iter, list, tuple, sorted, lambda it: [name for name in it]):
            for one in (board, filled):
                with self.assertRaises(TypeError):
                    call(one)

    def test_kinds(self):
        board = Board()
        board.admit("a", 0, 0, 9)
        told = (board.names, board.bounds("a"), board.chain("a"), board.foresee("a", [1]), board.ways("a", [1]))
        self.assertEqual([type(part) for part in told], [tuple] * 5)


class Twins(Case):
    def test_twins(self):
        for rng, reach, board, plain in drawn_boards("twins", 20):
            twin, other = board.twin(), Plain()
            other.accounts = copy.deepcopy(plain.accounts)
            self.assertEqual((twin == board, twin != board, type(twin), twin.deeds), (True, False, Board, 0))
            for _ in range(12):
                for one, state in ((board, plain), (twin, other)):
                    deed, arguments = drawn_deed(rng, reach)
                    self.assertEqual(told_by(one, deed, arguments), told_by(state, deed, arguments))
                    self.check(board, plain)
                    self.check(twin, other)
                self.assertIs(board == twin, plain.accounts == other.accounts)
                self.assertIs(board != twin, plain.accounts != other.accounts)
            while other.past:
                other.back()
                twin.back()
                self.check(twin, other)
            with self.assertRaises(errors.NothingDone):
                twin.back()

    def board_of(self, *accounts):
        board = Board()
        for account in accounts:
            board.admit(*account)
        return board

    def test_equality(self):
        kinds = [(), (("a", 0),), (("b", 0),), (("a", 1),), (("a", 0, 0),), (("a", 0, None, 0),), (("a", 0, 0, 0),),
                 (("a", 0), ("b", 0)), (("a", 0), ("b", 0, None, None, "a")), (("b", 0), ("a", 0, None, None, "b"))]
        for one, other in itertools.product(range(len(kinds)), repeat=2):
            boards = self.board_of(*kinds[one]), self.board_of(*kinds[other])
            self.assertIs(boards[0] == boards[1], one == other)
            self.assertIs(boards[0] != boards[1], one != other)
        # Neither the order of the deeds nor their number counts.
        one, other = self.board_of(("a", 0), ("b", 3)), self.board_of(("b", 0), ("a", 0))
        self.assertIs(one == other, False)
        other.give("b", 3)
        self.assertEqual((one == other, one != other, one.deeds, other.deeds), (True, False, 2, 3))

    def test_equality_beside_what_is_no_board(self):
        class Look:
            names, deeds, _accounts, _past = (), 0, {}, []

        board = Board()
        for thing in (None, True, 0, "", (), [], {}, Look(), object(), Way(0)):
            self.assertIs(board == thing, False)
            self.assertIs(board != thing, True)
            self.assertIs(thing == board, False)
            self.assertIs(thing != board, True)


if __name__ == "__main__":
    unittest.main()
