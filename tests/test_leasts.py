"""ROWs that are alike, and least ROWs, against levels stepped one by one."""

import itertools
import random
import unittest

from boundedlevels.leasts import (alike, equal_starts, fewest_events, is_parting, least_row, least_rows,
                                  parting_start)
from boundedlevels.plain import is_row
from boundedlevels.ways import Way, way_of
from reckoning import (FAR, HUGE, all_starts, bound_triples, end, every_row, led_by, listed, moved_up, random_rows,
                       turning_starts)


def pairs_to_try():
    """Pairs of ROWs, alike and not, short and long, near 0 and far from it."""
    rng = random.Random("pairs")
    short = [row for row in every_row(2, 1)]
    pairs = [(rng.choice(short), rng.choice(short)) for _ in range(1500)]
    for longest in (4, 12, 60):
        rows = random_rows(f"pairs {longest}", 120, longest)
        pairs += list(zip(rows, rows[1:]))
        for row in rows:
            # Little changes give pairs that are alike, or part for a few starts only.
            place = rng.randint(0, len(row))
            for word in ("add", "floor", "cap"):
                pairs.append((row, row[:place] + ((word, rng.randint(-2, 2)),) + row[place:]))
            pairs.append((row, row[:place] + row[place + 1:]))
    return pairs


PAIRS = pairs_to_try()


def equal_by_trying(row, other, wide):
    """The STRETCHes within which both end alike, found by trying all starts of a wide range."""
    stretches = []
    for start in wide:
        if end(row, start) == end(other, start):
            if stretches and stretches[-1][1] == start - 1:
                stretches[-1][1] = start
            else:
                stretches.append([start, start])
    return [(None if least == wide[0] else least, None if greatest == wide[-1] else greatest)
            for least, greatest in stretches]


class Alike(unittest.TestCase):
    def test_pairs(self):
        count = 0
        for row, other in PAIRS:
            starts = all_starts(row, other)
            same = all(end(row, start) == end(other, start) for start in starts)
            count += same
            self.assertIs(alike(row, other), same, (row, other))
            self.assertIs(alike(other, row), same, (row, other))
            self.assertIs(alike(row, row), True)
            self.check_parting(row, other, same)
        self.assertGreater(count, 300)
        self.assertGreater(len(PAIRS) - count, 300)

    def check_parting(self, row, other, same):
        start = parting_start(row, other)
        if same:
            self.assertIsNone(start, (row, other))
        else:
            self.assertIs(type(start), int)
            self.assertNotEqual(end(row, start), end(other, start), (row, other, start))
            self.assertIs(is_parting(row, other, start), True)

    def test_all_short_rows_by_what_they_do(self):
        rows = [row for row in every_row(2, 1)]
        ends = {row: tuple(end(row, start) for start in range(-9, 10)) for row in rows}
        for row, other in itertools.product(rows, rows):
            self.assertIs(alike(row, other), ends[row] == ends[other], (row, other))

    def test_parting_at_one_start_alone(self):
        # (row, other, the only start for which they part)
        for by in (0, 5, -5, HUGE, -HUGE):
            row, other = moved_up((("floor", 0), ("cap", 1)), by), moved_up((("floor", 1), ("cap", 1)), by)
            self.assertEqual(equal_starts(row, other), [(1 + by, None)])
            row, other = moved_up((("floor", 0),), by), moved_up((("cap", 1), ("floor", 0), ("cap", 0)), by)
            self.assertEqual(equal_starts(row, other), [(None, by)])

    def test_parting_only_far_away(self):
        for row, other in (((("cap", HUGE),), ()), ((("floor", -HUGE),), ()), ((("cap", HUGE),), (("cap", HUGE + 1),)),
                           ((("add", HUGE),), (("add", HUGE), ("cap", 10 ** 39)))):
            self.assertIs(alike(row, other), False)
            self.check_parting(row, other, False)
            self.check_parting(other, row, False)

    def test_is_parting_for_each_start(self):
        for row, other in PAIRS[::9]:
            for start in all_starts(row, other)[::3]:
                told = end(row, start) != end(other, start)
                self.assertIs(is_parting(row, other, start), told, (row, other, start))
                self.assertIs(is_parting(other, row, start), told)


class EqualStarts(unittest.TestCase):
    def test_short_rows_by_trying_all_starts(self):
        rng = random.Random("equal")
        rows = [row for row in every_row(3, 2)]
        wide = range(-30, 31)
        counts = {}
        for _ in range(3000):
            row, other = rng.choice(rows), rng.choice(rows)
            told = equal_by_trying(row, other, wide)
            counts[len(told)] = counts.get(len(told), 0) + 1
            self.assertEqual(equal_starts(row, other), told, (row, other))
            by = rng.choice((HUGE, -HUGE, 10 ** 15 + 1))
            far = [tuple(None if part is None else part + by for part in stretch) for stretch in told]
            self.assertEqual(equal_starts(moved_up(row, by), moved_up(other, by)), far, (row, other))
        self.assertEqual(sorted(counts), [0, 1, 2])

    def test_pairs(self):
        for row, other in PAIRS:
            self.check(row, other)

    def check(self, row, other):
        stretches = equal_starts(row, other)
        for start in all_starts(row, other):
            told = any((least is None or least <= start) and (greatest is None or start <= greatest)
                       for least, greatest in stretches)
            self.assertIs(told, end(row, start) == end(other, start), (row, other, start))
        for place, (least, greatest) in enumerate(stretches):
            self.assertTrue(least is None or greatest is None or least <= greatest)
            self.assertTrue(least is not None or place == 0)
            self.assertTrue(greatest is not None or place == len(stretches) - 1)
        for (_, greatest), (least, _) in zip(stretches, stretches[1:]):
            self.assertLess(greatest + 1, least, (row, other))

    def test_by_hand(self):
        self.assertEqual(equal_starts((), ()), [(None, None)])
        self.assertEqual(equal_starts((("add", 1),), ()), [])
        self.assertEqual(equal_starts((("floor", 4), ("cap", 4)), ()), [(4, 4)])
        self.assertEqual(equal_starts((("floor", 0),), ()), [(0, None)])
        self.assertEqual(equal_starts((("cap", 0),), ()), [(None, 0)])
        self.assertEqual(equal_starts((("floor", 0), ("cap", 5)), (("floor", 5), ("cap", 5))), [(5, None)])
        self.assertEqual(equal_starts((("floor", 0), ("cap", 1)), (("floor", 0), ("cap", 1), ("add", 0))),
                         [(None, None)])
        # Apart for the start 1 alone.
        self.assertEqual(equal_starts((("add", -2), ("floor", 0), ("cap", 3)), (("add", -1), ("floor", 0), ("cap", 3))),
                         [(None, 1), (5, None)])
        self.assertEqual(equal_starts((("floor", 0), ("cap", 1)), (("add", -1), ("floor", 0), ("cap", 1))),
                         [(None, 0), (2, None)])


class LeastRows(unittest.TestCase):
    def test_all_of_them_by_trying_all_short_rows(self):
        # Ways with numbers to 1 need numbers to 2 in their least ROWs.
        least = {}
        for row in every_row(3, 2):
            ends = tuple(end(row, start) for start in range(-9, 10))
            rows = least.setdefault(ends, [])
            if not rows or len(rows[0]) == len(row):
                rows.append(row)
        for triple in bound_triples(1):
            if triple[0] is not None:
                rows = least[tuple(led_by(triple, start) for start in range(-9, 10))]
                self.assertEqual(least_rows(Way(*triple)), sorted(rows), triple)
            else:
                rows = least[tuple(led_by(triple, start) for start in range(-9, 10))]
                self.assertEqual(len(rows[0]), 2)
                self.assertTrue(set(least_rows(Way(*triple))) <= set(rows))

    def test_numbers_of_each_order(self):
        for shift, floor, cap in ((-1, -4, 6), (HUGE, 3, 4), (7, -HUGE, HUGE), (-HUGE, HUGE, HUGE + 1)):
            add = ("add", shift)
            expected = []
            for first, second in ((("floor", floor), ("cap", cap)), (("cap", cap), ("floor", floor))):
                early, later = [(word, number - shift) for word, number in (first, second)]
                expected += [(add, first, second), (early, add, second), (early, later, add)]
            self.assertEqual(least_rows(Way(shift, floor, cap)), sorted(expected))

    def test_no_shift_needs_no_add(self):
        self.assertEqual(least_rows(Way(0)), [()])
        self.assertEqual(least_rows(Way(0, 5)), [(("floor", 5),)])
        self.assertEqual(least_rows(Way(0, None, -HUGE)), [(("cap", -HUGE),)])
        self.assertEqual(least_rows(Way(0, 2, 5)),
                         [(("cap", 5), ("floor", 2)), (("floor", 2), ("cap", 5))])
        self.assertEqual(least_rows(Way(-3)), [(("add", -3),)])
        self.assertEqual(least_rows(Way(-3, 2)), [(("add", -3), ("floor", 2)), (("floor", 5), ("add", -3))])
        self.assertEqual(least_rows(Way(4, None, 2)), [(("add", 4), ("cap", 2)), (("cap", -2), ("add", 4))])

    def test_constants(self):
        for number in (0, 4, -4, HUGE, -HUGE):
            told = [(("cap", number), ("floor", number)), (("floor", number), ("cap", number))]
            self.assertEqual(least_rows(Way(None, number, number)), told)
            self.assertEqual(least_rows(Way(number + 1, number, number)), told)
            self.assertEqual(least_row(Way(None, number, number)), told[0])

    def test_each_has_the_way(self):
        for triple in bound_triples(3):
            way = Way(*triple)
            rows = least_rows(way)
            self.assertEqual(rows, sorted(set(rows)))
            self.assertEqual(least_row(way), rows[0])
            self.assertEqual(len({len(row) for row in rows}), 1)
            for row in rows:
                self.assertIs(is_row(row), True, row)
                for start in all_starts(row):
                    self.assertEqual(end(row, start), led_by(triple, start), (triple, row, start))

    def test_of_rows(self):
        for row in random_rows("least rows", 200, 60) + random_rows("least rows few", 200, 5):
            rows = least_rows(way_of(row))
            self.assertLessEqual(len(rows[0]), 3)
            self.assertEqual(fewest_events(row), len(rows[0]), row)
            self.assertEqual(fewest_events(listed(row)), len(rows[0]), row)
            for least in rows:
                for start in all_starts(row, least)[::2]:
                    self.assertEqual(end(least, start), end(row, start), (row, least, start))


class Fewest(unittest.TestCase):
    def test_by_trying_all_short_rows(self):
        fewest = {}
        for row in [*every_row(1, 9), *every_row(2, 6), *every_row(3, 1)]:
            ends = tuple(end(row, start) for start in range(-14, 15))
            fewest[ends] = min(len(row), fewest.get(ends, 3))
        for row in every_row(3, 1):
            ends = tuple(end(row, start) for start in range(-14, 15))
            self.assertEqual(fewest_events(row), fewest[ends], row)

    def test_by_hand(self):
        told = {
            (): 0, (("add", 0),): 0, (("add", 5),): 1, (("floor", 5),): 1, (("cap", 5),): 1,
            (("floor", 5), ("floor", 3)): 1, (("floor", 5), ("cap", 5)): 2, (("add", 4), ("floor", 5), ("cap", 5)): 2,
            (("add", 4), ("floor", 5)): 2, (("add", 4), ("floor", 5), ("cap", 6)): 3, (("add", 1),) * 60: 1,
            (("floor", 5), ("cap", 6)): 2, (("add", HUGE), ("add", -HUGE), ("cap", 0)): 1,
        }
        for row, many in told.items():
            self.assertEqual(fewest_events(row), many, row)


class Helpers(unittest.TestCase):
    def test_starts_to_try_hold_all_that_turns(self):
        # What the other tests rest on: between the starts that they try nothing turns.
        for row in every_row(2, 2):
            tried = set(turning_starts(row))
            for start in range(-12, 13):
                steps = [end(row, start + step) - end(row, start + step - 1) for step in (0, 1)]
                if steps[0] != steps[1]:
                    self.assertIn(start, tried, row)
        self.assertTrue(set(FAR) <= set(all_starts(())))


if __name__ == "__main__":
    unittest.main()
