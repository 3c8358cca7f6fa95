"""The overview over the whole program: the same told by several modules, each beside the others."""

import itertools
import random
import unittest

from boundedlevels import late, readings, rounds, units
from boundedlevels.account import Account
from boundedlevels.board import Board
from boundedlevels.desk import answers
from boundedlevels.flows import flow, flow_times, sum_ways, went_on
from boundedlevels.heaps import (
    ends_heap, heap_row, highest_deeds, highest_heap, highest_held, lowest_deeds, lowest_heap, lowest_held,
)
from boundedlevels.leasts import alike, equal_starts, fewest_events, least_row, least_rows, parting_start
from boundedlevels.needs import adds_between, cheapest_amounts, floors_between, with_adds
from boundedlevels.plain import end_of, is_row
from boundedlevels.readings import Finder
from boundedlevels.texts import row_in, row_text, shown, way_in
from boundedlevels.ways import Way, levels_of, starts_for, way_of
from boundedlevels.woven import ends_woven, highest_woven, lowest_woven
from reckoning import FAR, HUGE, all_starts, end, inside, random_row, random_rows, stepped

ROWS = [(), *random_rows("overview", 40, 8), *random_rows("overview of sixty", 6, 60)]


def account_of(start, row):
    account = Account(start)
    for event in row:
        account.do(event)
    return account


class Rounds(unittest.TestCase):
    """(a): what is done again, lost, late or twice; what is lifted and cut."""

    def test_so_many_times(self):
        rng = random.Random("rounds")
        for row in ROWS:
            way, start = way_of(row), rng.choice((0, rng.randint(-9, 9), rng.randint(-HUGE, HUGE)))
            account, levels = Account(start), [start]
            for times in range(7):
                self.assertEqual((way * times)(start), account.level)
                self.assertEqual(account.way, way * times)
                self.assertEqual(rounds.highest(row, start, times), max(levels))
                self.assertEqual(rounds.lowest(row, start, times), min(levels))
                levels += stepped(row, account.level)
                for event in row:
                    account.do(event)
            self.check_rest(row, way, start)

    def check_rest(self, row, way, start):
        told = rounds.settles(way, start)
        for times in (10 ** 9, HUGE):
            if told is not None:
                self.assertEqual((way * (told[0] + times))(start), told[1])
                self.assertEqual(rounds.long_run(row, start), stepped(row, told[1]))
                self.assertTrue(inside(rounds.stays(way), told[1]))
            else:
                self.assertNotEqual((way * times)(start), (way * (times + 1))(start))

    def test_lost_late_and_twice(self):
        rng = random.Random("lost")
        for row in ROWS:
            for place in rng.sample(range(len(row)), min(3, len(row))):
                goal, start = rng.randrange(len(row)), rng.choice((3, rng.randint(-HUGE, HUGE)))
                account = account_of(start, row)
                pairs = ((account.twin().drop(place), late.without(row, place)),
                         (account.twin().move(place, goal), late.moved(row, place, goal)),
                         (account.would(place + 1, row[place]), late.doubled(row, place)))
                for level, other in pairs:
                    self.assertEqual(level, end_of(other, start))
                matters = late.lost_matters(row, place)
                self.assertIs(inside(matters, start), pairs[0][0] != account.level)
                self.assertIs(matters is None, alike(row, pairs[0][1]))
                answer = answers("\n".join([f"open a {start}", *[f"do a {row_text((event,))}" for event in row],
                                            f"lost a {place}"]))[-1]
                self.assertEqual(answer, "never" if matters is None else "yes" if inside(matters, start) else "no")

    def test_units(self):
        rng = random.Random("units")
        for row in ROWS:
            start = rng.choice((0, rng.randint(-HUGE, HUGE)))
            total = sum(number for word, number in row if word == "add")
            self.assertEqual(end_of(row, start), start + total + units.lifted(row, start) - units.cut(row, start))
            told = [line.rsplit("(", 1)[1].rstrip(")").split(" ") for line in shown(row, start) if "(" in line]
            self.assertEqual(sum(int(by) for word, by in told if word == "lifted"), units.lifted(row, start))
            self.assertEqual(sum(int(by) for word, by in told if word == "cut"), units.cut(row, start))
            # A unit lives exactly if its two starts end unlike.
            self.assertIs(units.fate(row, start) is None, end_of(row, start) != end_of(row, start + 1))


class Orders(unittest.TestCase):
    """(b): rows that are woven, and events in any order."""

    def test_streams_of_single_events_are_a_heap(self):
        rng = random.Random("single")
        for reach in (2, 7, HUGE):
            for _ in range(15):
                heap = random_row(rng, 3, reach)
                streams, deeds = tuple((event,) for event in heap), tuple((event,) for event in heap)
                self.assertEqual((highest_woven(streams), lowest_woven(streams)),
                                 (highest_heap(heap), lowest_heap(heap)))
                self.assertEqual((highest_deeds(deeds), lowest_deeds(deeds)), (highest_heap(heap), lowest_heap(heap)))
                start = rng.randint(-reach, reach)
                self.assertEqual(ends_woven(streams, start), ends_heap(heap, start))
                least, greatest = late.late_ways(heap, 3)
                self.assertEqual((least, greatest), (lowest_heap(heap), highest_heap(heap)))

    def test_the_more_is_open_the_further_the_ends(self):
        rng = random.Random("open")
        for reach in (4, HUGE):
            for _ in range(15):
                streams = tuple(random_row(rng, 4, reach) for _ in range(3))
                heap = tuple(event for row in streams for event in row)
                start = rng.randint(-reach, reach)
                # In order, each stream whole, woven, in any order.
                told = [(end_of(heap, start),) * 2]
                for lowest, highest, things in ((lowest_deeds, highest_deeds, streams),
                                                (lowest_woven, highest_woven, streams),
                                                (lowest_heap, highest_heap, heap)):
                    least, greatest = lowest(things), highest(things)
                    told.append((least(start), greatest(start)))
                for (least, greatest), (lower, higher) in zip(told, told[1:]):
                    self.assertTrue(lower <= least <= greatest <= higher)

    def test_orders_in_an_account(self):
        rng = random.Random("account")
        for _ in range(20):
            heap, start = random_row(rng, 5, 6), rng.randint(-9, 9)
            ends = dict(ends_heap(heap, start))
            for order in rng.sample(list(itertools.permutations(range(5))), 10):
                account = account_of(start, heap_row(heap, order))
                self.assertIn(account.level, ends)
            sheet = [f"open a {start}", *[f"do a {row_text((event,))}" for event in heap], "heap a"]
            self.assertEqual(answers("\n".join(sheet))[-1], f"{min(ends)} {max(ends)}")

    def test_held(self):
        rng = random.Random("held")
        for reach in (5, HUGE):
            for _ in range(20):
                adds = [rng.randint(-reach, reach) for _ in range(8)]
                floor, start, cap = sorted(rng.randint(-reach, reach) for _ in range(3))
                told = [late.held_end([adds[place] for place in order], floor, cap, start)
                        for order in late.held_orders(adds, 60)]
                self.assertEqual(told, [lowest_held(adds, floor, cap, start), highest_held(adds, floor, cap, start)])


class Rows(unittest.TestCase):
    """(c): levels in a row, by flows, by a Board, and by the Ways of their sums."""

    def drawn(self, rng, reach):
        limits = tuple(tuple(sorted(rng.randint(-reach, reach) for _ in range(2))) for _ in range(rng.randint(1, 5)))
        levels = tuple(rng.randint(low, high) for low, high in limits)
        return limits, levels, tuple(rng.randint(-2 * reach, 2 * reach) for _ in range(rng.randint(0, 9)))

    def test_flows_on_a_board(self):
        rng = random.Random("board")
        for reach in (3, 20, HUGE // 3):
            for _ in range(25):
                limits, levels, amounts = self.drawn(rng, reach)
                board, names = Board(), tuple("abcde"[:len(limits)])
                for at in range(len(limits))[::-1]:
                    board.admit(names[at], levels[at], *limits[at], names[at + 1] if names[at + 1:] else None)
                self.assertEqual(board.chain("a"), names)
                self.assertEqual(board.foresee("a", amounts), flow(limits, levels, amounts))
                self.assertEqual(board.ways("a", amounts), sum_ways(limits, amounts))
                lost = [board.give("a", amount) if amount >= 0 else -board.call("a", -amount) for amount in amounts]
                more, less = went_on(limits, levels, amounts)[-1]
                self.assertEqual((sum(by for by in lost if by > 0), -sum(by for by in lost if by < 0)), (more, less))
                self.assertEqual(tuple(board[name] for name in names), flow(limits, levels, amounts))

    def test_sums_go_as_rows_do(self):
        rng = random.Random("sums")
        for reach in (3, HUGE // 3):
            for _ in range(25):
                limits, levels, amounts = self.drawn(rng, reach)
                for times in (0, 1, 4, HUGE):
                    told = list(itertools.accumulate(flow_times(limits, levels, amounts, times)))
                    sums = list(itertools.accumulate(levels))
                    ways = [way * times for way in sum_ways(limits, amounts)]
                    self.assertEqual(told, [way(total) for way, total in zip(ways, sums)])


class OneWay(unittest.TestCase):
    """(d): what a ROW does is one Way; ROWs are alike exactly if it is equal; a least ROW, texts, the last line."""

    def test_all_beside_one_another(self):
        rng = random.Random("one way")
        for row in ROWS:
            way, least = way_of(row), least_row(way_of(row))
            self.assertTrue(alike(row, least) and is_row(least) and len(least) == fewest_events(row) <= 3)
            self.assertIsNone(parting_start(row, least))
            self.assertEqual(equal_starts(row, least), [(None, None)])
            self.assertEqual((row_in(row_text(row)), way_in(way.text), row_in(row_text(least))), (row, way, least))
            for start in [*rng.sample(all_starts(row), 4), *FAR]:
                ends = {way(start), end_of(row, start), end_of(least, start), end(row, start),
                        levels_of(row, start)[-1], account_of(start, row).level, account_of(0, row).from_start(start),
                        int(shown(row, start)[-1].split(": ")[-1].split(" ")[0])}
                self.assertEqual(len(ends), 1, (row, start))
                self.assertTrue(inside(starts_for(way, way(start)), start))
                self.assertEqual(account_of(start, row).open_starts(), starts_for(way, way(start)))

    def test_rows_that_are_alike(self):
        for row, other in itertools.combinations(ROWS[:30], 2):
            start = parting_start(row, other)
            self.assertIs(start is None, way_of(row) == way_of(other))
            self.assertIs(start is None, row_text(least_row(way_of(row))) == row_text(least_row(way_of(other))))
            if start is not None:
                self.assertNotEqual(account_of(start, row).level, account_of(start, other).level)

    def test_at_the_desk(self):
        rng = random.Random("desk")
        for row in ROWS:
            start, number = rng.randint(-HUGE, HUGE), rng.randint(-9, 9)
            events = [f"do a {text}" for text in row_text(row).split(", ")] if row else []
            sheet = [f"open a {start}", *events, "level a", "row a", "way a", "least a", f"from a {number}"]
            told = answers("\n".join(sheet))
            way = way_of(row)
            self.assertEqual(told[-5:], [f"{way(start)}", row_text(row), way.text, row_text(least_row(way)),
                                         f"{way(number)}"])
            self.assertEqual(told[1:-5], [str(level) for level in levels_of(row, start)[1:]])
            for text in (told[-2], *[row_text(least) for least in least_rows(way)]):
                self.assertEqual(way_of(row_in(text)), way)


class Known(unittest.TestCase):
    """(e): what readings tell, a Way that is found, what must be added."""

    def test_a_row_that_is_known(self):
        rng = random.Random("known")
        for row in ROWS:
            guess, start = tuple((word, number, number) for word, number in row), rng.randint(-HUGE, HUGE)
            levels = levels_of(row, start)
            # One start tells all; what is read at the end tells the starts that lead there.
            self.assertEqual(readings.levels_by(guess, (start, start), ()), [(level, level) for level in levels])
            self.assertEqual(readings.going(guess, (None, None), ((0, start),)), (start, row))
            told = readings.levels_by(guess, (None, None), ((len(row), levels[-1]),))
            self.assertEqual(told[0], starts_for(way_of(row), levels[-1]))
            self.assertEqual(told[0], account_of(start, row).open_starts())
            self.assertTrue(all(inside(stretch, level) for stretch, level in zip(told, levels)))

    def test_a_way_that_is_found(self):
        rng = random.Random("found")
        for row in ROWS:
            low, high = sorted(rng.randint(-9, 9) + rng.choice((0, HUGE)) for _ in range(2))
            finder, most = Finder(low, high, end_of(row, low), end_of(row, high)), None
            while finder.way is None:
                self.assertTrue(most is None or finder.asks() < most)
                most = finder.asks()
                finder.tell(finder.ask(), end_of(row, finder.ask()))
            found = finder.way
            for start in {low, high, (low + high) // 2, min(low + 1, high), max(high - 1, low)}:
                self.assertEqual(found(start), end_of(row, start))

    def test_what_must_be_added(self):
        rng = random.Random("added")
        for row in ROWS:
            start, goal = rng.randint(-9, 9), rng.choice((5, HUGE, 0))
            prices = [rng.randint(1, 9) for _ in range(len(row) + 1)]
            amounts = cheapest_amounts(row, prices, start, goal)
            self.assertGreaterEqual(account_of(start, with_adds(row, amounts)).level, goal)
            for place in rng.sample(range(len(row) + 1), min(4, len(row) + 1)):
                for word, function in (("add", adds_between), ("floor", floors_between)):
                    numbers = function(row, place, start, goal, goal)
                    account = account_of(start, row)
                    for number in [bound for bound in numbers or () if bound is not None]:
                        self.assertEqual(account.would(place, (word, number)), goal)
                    if numbers is None:
                        self.assertNotIn(goal, [account.would(place, (word, number)) for number in range(-20, 21)])

    def test_no_events_and_one_start(self):
        self.assertEqual(Way(0), way_of(()))
        self.assertEqual((readings.levels_by((), (5, 5), ()), Finder(5, 5, 5, 5).way, cheapest_amounts((), (1,), 5, 5)),
                         ([(5, 5)], Way(None, 5, 5), (0,)))


if __name__ == "__main__":
    unittest.main()
