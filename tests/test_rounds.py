"""Rounds, against going round for round and moment for moment."""

import random
import unittest

from boundedlevels.rounds import (
    forgets_after, highest, long_run, lowest, meet_after, rounds_down_to, rounds_up_to, rounds_within, settles, stays,
)
from boundedlevels.ways import Way, way_of
from reckoning import (
    FAR, HUGE, bound_triples, crossing_starts, end, led_by, listed, random_row, random_rows, scaled, stepped,
    stretch_fault,
)

# No way with bounds and shifts to 3 needs more rounds than these from starts to 12.
MANY = 40
NEAR = range(-12, 13)
TRIPLES = bound_triples(3)


def round_by_round(triple, start, many=MANY):
    levels = [start]
    for _ in range(many):
        levels.append(led_by(triple, levels[-1]))
    return levels


def both(one, other):
    """The (shift, floor, cap) of one way and then another."""
    floor = other[1] if one[1] is None else led_by(other, one[1])
    cap = other[2] if one[2] is None else led_by(other, one[2])
    if floor is not None and floor == cap:
        return (None, floor, cap)
    return (one[0] + other[0], floor, cap)


def many_times(triple, times):
    """The (shift, floor, cap) of so many rounds, by doubling."""
    total = (0, None, None)
    while times:
        if times % 2:
            total = both(total, triple)
        triple = both(triple, triple)
        times //= 2
    return total


def behind(triple, start, rounds):
    """The level behind so many rounds, however many."""
    return led_by(many_times(triple, rounds), start)


def times_over(triple, by):
    return tuple(None if number is None else number * by for number in triple)


def first_of(rounds):
    return rounds[0] if rounds else None


def huge_ways(seed, count):
    """(shift, floor, cap) with shifts near 0 and far from it, and bounds of 30 digits."""
    rng = random.Random(seed)
    triples = []
    for _ in range(count):
        shift = rng.choice((-1, 1, -7, 10 ** 9, -(10 ** 15), rng.randint(-HUGE, HUGE), 0))
        floor, cap = sorted((rng.randint(-HUGE, HUGE), rng.randint(-HUGE, HUGE)))
        floor, cap = rng.choice(((floor, cap), (floor, None), (None, cap), (None, None), (floor, floor + 1)))
        triples.append((shift, floor, cap))
    return triples


class Stays(unittest.TestCase):
    def test_small_ways(self):
        for triple in TRIPLES:
            fault = stretch_fault(stays(Way(*triple)), [*NEAR, *FAR], lambda level: led_by(triple, level) == level)
            self.assertIsNone(fault, triple)

    def test_huge_ways(self):
        for triple in huge_ways("stays", 300):
            bounds = [bound for bound in triple[1:] if bound is not None]
            levels = sorted({bound + step for bound in (0, *bounds) for step in (-1, 0, 1)} | set(FAR))
            fault = stretch_fault(stays(Way(*triple)), levels, lambda level: led_by(triple, level) == level)
            self.assertIsNone(fault, triple)


class Settles(unittest.TestCase):
    def test_small_ways(self):
        for triple in TRIPLES:
            for start in NEAR:
                levels = round_by_round(triple, start)
                rounds = first_of([at for at in range(MANY) if levels[at] == levels[at + 1]])
                told = None if rounds is None else (rounds, levels[rounds])
                self.assertEqual(settles(Way(*triple), start), told, (triple, start))
                for by in (HUGE, 10 ** 29 + 1):
                    far = None if told is None else (rounds, levels[rounds] * by)
                    self.assertEqual(settles(Way(*times_over(triple, by)), start * by), far, (triple, start, by))

    def test_huge_ways(self):
        rng = random.Random("settles")
        settled = 0
        for triple in huge_ways("settles", 400):
            start = rng.choice((0, rng.randint(-HUGE, HUGE), rng.choice(FAR)))
            told = settles(Way(*triple), start)
            if told is None:
                late = behind(triple, start, 10 ** 50)
                self.assertNotEqual(led_by(triple, late), late)
                continue
            rounds, level = told
            settled += rounds > 10 ** 9
            self.assertEqual(behind(triple, start, rounds), level)
            self.assertEqual(led_by(triple, level), level)
            self.assertTrue(rounds == 0 or behind(triple, start, rounds - 1) != level, (triple, start))
        self.assertGreater(settled, 20)

    def test_answers_of_the_size_of_the_numbers(self):
        self.assertEqual(settles(Way(1, -HUGE, HUGE), -HUGE), (2 * HUGE, HUGE))
        self.assertEqual(settles(Way(-1, 0), HUGE), (HUGE, 0))
        self.assertEqual(settles(Way(-1, 0), 0), (0, 0))
        self.assertEqual(settles(Way(2, None, HUGE + 1), 0), (HUGE // 2 + 1, HUGE + 1))
        self.assertEqual(settles(Way(-1, 0, HUGE), 10 ** 40), (HUGE + 1, 0))


class UpAndDown(unittest.TestCase):
    def test_small_ways(self):
        for triple in TRIPLES:
            for start in NEAR:
                levels = round_by_round(triple, start)
                for level in (*range(-5, 6), start - 1, start, start + 1):
                    up = first_of([at for at in range(MANY) if levels[at] >= level])
                    down = first_of([at for at in range(MANY) if levels[at] <= level])
                    way = Way(*triple)
                    self.assertEqual(rounds_up_to(way, start, level), up, (triple, start, level))
                    self.assertEqual(rounds_down_to(way, start, level), down, (triple, start, level))
                    way = Way(*times_over(triple, HUGE))
                    self.assertEqual(rounds_up_to(way, start * HUGE, level * HUGE), up, (triple, start, level))
                    self.assertEqual(rounds_down_to(way, start * HUGE, level * HUGE), down, (triple, start, level))

    def test_huge_ways(self):
        rng = random.Random("up and down")
        for triple in huge_ways("up and down", 400):
            start, level = [rng.choice((0, rng.randint(-HUGE, HUGE), rng.choice(FAR))) for _ in range(2)]
            for function, sign in ((rounds_up_to, 1), (rounds_down_to, -1)):
                rounds = function(Way(*triple), start, level)
                if rounds is None:
                    for at in (0, 1, 2, 10 ** 30, 10 ** 50):
                        self.assertLess(sign * behind(triple, start, at), sign * level, (triple, start, level))
                    continue
                self.assertGreaterEqual(sign * behind(triple, start, rounds), sign * level, (triple, start, level))
                for at in [at for at in (0, 1, rounds // 2, rounds - 1) if 0 <= at < rounds]:
                    self.assertLess(sign * behind(triple, start, at), sign * level, (triple, start, level))

    def test_far_levels(self):
        self.assertEqual(rounds_up_to(Way(1), -HUGE, HUGE), 2 * HUGE)
        self.assertEqual(rounds_down_to(Way(-3), HUGE, -HUGE), (2 * HUGE + 2) // 3)
        self.assertEqual(rounds_up_to(Way(1, 0, HUGE), -HUGE, HUGE), HUGE + 1)
        self.assertIsNone(rounds_up_to(Way(1, 0, HUGE), 0, HUGE + 1))
        self.assertIsNone(rounds_down_to(Way(-1, 0, HUGE), 5, -1))


class Meet(unittest.TestCase):
    def test_forgets_after(self):
        for triple in TRIPLES:
            total, rounds = triple, 1
            while rounds < MANY and total[0] is not None:
                total, rounds = both(total, triple), rounds + 1
            told = None if total[0] is not None else rounds
            for by in (1, HUGE, 10 ** 29 + 1):
                self.assertEqual(forgets_after(Way(*times_over(triple, by))), told, (triple, by))

    def test_forgets_after_of_huge_ways(self):
        for triple in huge_ways("forgets", 400):
            rounds = forgets_after(Way(*triple))
            if rounds is None:
                self.assertIsNotNone(many_times(triple, 10 ** 50)[0], triple)
            else:
                self.assertIsNone(many_times(triple, rounds)[0], triple)
                self.assertTrue(rounds == 1 or many_times(triple, rounds - 1)[0] is not None, triple)
        self.assertEqual(forgets_after(Way(1, -HUGE, HUGE)), 2 * HUGE + 1)
        self.assertEqual(forgets_after(Way(-HUGE, 0, 1)), 2)
        self.assertEqual(forgets_after(Way(None, HUGE, HUGE)), 1)

    def test_meet_after(self):
        for triple in TRIPLES:
            rows = {start: round_by_round(triple, start) for start in NEAR}
            for one in NEAR:
                for other in NEAR:
                    told = first_of([at for at in range(MANY) if rows[one][at] == rows[other][at]])
                    self.assertEqual(meet_after(Way(*triple), one, other), told, (triple, one, other))

    def test_meet_after_of_huge_ways(self):
        rng = random.Random("meet")
        for triple in huge_ways("meet", 400):
            bounds = [bound for bound in triple[1:] if bound is not None]
            one, other = [rng.choice((0, *bounds, rng.randint(-HUGE, HUGE), rng.choice(FAR))) for _ in range(2)]
            rounds = meet_after(Way(*triple), one, other)
            if rounds is None:
                late = [behind(triple, start, 10 ** 50) for start in (one, other)]
                self.assertNotEqual(late[0], late[1], (triple, one, other))
                continue
            self.assertEqual(behind(triple, one, rounds), behind(triple, other, rounds), (triple, one, other))
            if rounds > 0:
                self.assertNotEqual(behind(triple, one, rounds - 1), behind(triple, other, rounds - 1))
        self.assertEqual(meet_after(Way(1, -HUGE, HUGE), -HUGE, HUGE), 2 * HUGE)
        self.assertEqual(meet_after(Way(1), HUGE, HUGE), 0)
        self.assertEqual(meet_after(Way(-1, 0), HUGE, 1), HUGE)


def all_levels(row, start, times):
    """The levels at all moments of so many rounds."""
    levels = [start]
    for _ in range(times):
        levels += stepped(row, levels[-1])[1:]
    return levels


def rows_of_rounds(seed):
    rng = random.Random(seed)
    rows = [(), (("add", 0),), (("add", 1),), (("add", -2), ("floor", 0)), (("floor", 2), ("cap", 2))]
    rows += random_rows(seed, 150, 6, (2, 5)) + [random_row(rng, 60, 4) for _ in range(3)]
    # Steps of 1 for many rounds, with bounds that are far apart.
    rows += [(("add", rng.choice((-1, 1))), ("cap", rng.randint(5, 15)), ("floor", rng.randint(-15, -5)))
             + random_row(rng, rng.randint(0, 2), 3, ("add",)) for _ in range(30)]
    return rows


class Rows(unittest.TestCase):
    def test_highest_and_lowest(self):
        rng = random.Random("highest")
        for row in rows_of_rounds("highest"):
            for start in (rng.randint(-20, 20), 0, rng.choice((-100, 100))):
                for times in (0, 1, 2, 3, rng.randint(4, 30)):
                    levels = all_levels(row, start, times)
                    told = (highest(row, start, times), lowest(row, start, times))
                    self.assertEqual(told, (max(levels), min(levels)), (row, start, times))
                    far = scaled(row, HUGE)
                    told = (highest(far, start * HUGE, times), lowest(far, start * HUGE, times))
                    self.assertEqual(told, (max(levels) * HUGE, min(levels) * HUGE), (row, start, times))

    def test_endless_rounds(self):
        rng = random.Random("endless")
        for row in rows_of_rounds("endless"):
            start, way = rng.randint(-20, 20), way_of(row)
            levels = all_levels(row, start, 60)
            told = (highest(row, start, HUGE), lowest(row, start, HUGE))
            if settles(way, start) is not None:
                self.assertEqual(told, (max(levels), min(levels)), (row, start))
            else:
                # The last round begins behind HUGE - 1 of them, as far on as those that were gone let see.
                ends = [start]
                for _ in range(3):
                    ends.append(end(row, ends[-1]))
                step = ends[3] - ends[2]
                levels += stepped(row, ends[2] + step * (HUGE - 3))
                self.assertEqual(told, (max(levels), min(levels)), (row, start))

    def test_highest_of_few_rounds(self):
        row = (("add", HUGE), ("cap", HUGE), ("add", -HUGE))
        self.assertEqual([highest(row, 5, times) for times in (0, 1, 2, HUGE)], [5, HUGE + 5, HUGE + 5, HUGE + 5])
        self.assertEqual([lowest(row, 5, times) for times in (0, 1, 2, HUGE)], [5, 0, 0, 0])
        self.assertEqual((highest((), 7, HUGE), lowest((), 7, HUGE), highest((), 7, 0)), (7, 7, 7))
        self.assertEqual((highest((("add", 1),), 0, HUGE), lowest((("add", -1),), 0, HUGE)), (HUGE, -HUGE))
        self.assertEqual((lowest((("add", 1),), 0, HUGE), highest((("add", -1),), 0, HUGE)), (0, 0))
        # From a start that a floor lifts, the first round need not come as high as the others.
        row = (("add", -1), ("floor", 9))
        self.assertEqual([highest(row, -50, times) for times in (0, 1, 2, 3)], [-50, 9, 9, 9])
        row = (("add", -2), ("floor", -9), ("cap", 9))
        self.assertEqual([highest(row, -50, times) for times in (0, 1, 2, 3)], [-50, -9, -9, -9])
        row = (("floor", 10), ("add", -1), ("cap", 9), ("add", 20), ("add", -21))
        self.assertEqual([highest(row, -50, times) for times in (1, 2, HUGE)], [29, 29, 29])

    def check_within(self, row, start, low, high, levels_of_rounds):
        good = [all((low is None or low <= level) and (high is None or level <= high) for level in levels)
                for levels in levels_of_rounds]
        told = good.index(False) if False in good else None
        self.assertEqual(rounds_within(row, start, low, high), told, (row, start, low, high))

    def test_rounds_within(self):
        rng = random.Random("within")
        for row in rows_of_rounds("within"):
            for _ in range(4):
                start = rng.randint(-12, 12)
                rounds, begin = [], start
                for _ in range(70):
                    rounds.append(stepped(row, begin))
                    begin = rounds[-1][-1]
                seen = sorted({level for levels in rounds[:6] for level in levels})
                for _ in range(4):
                    bounds = [rng.choice(seen) + rng.randint(-1, 1), rng.choice(seen) + rng.randint(-1, 1)]
                    low, high = sorted(bounds)
                    for low, high in ((low, high), (None, high), (low, None), (seen[0], seen[-1]), (None, None)):
                        self.check_within(row, start, low, high, rounds)

    def test_rounds_within_far_bounds(self):
        row = (("add", 3), ("add", -2))
        self.assertEqual(rounds_within(row, 0, None, HUGE), HUGE - 2)
        self.assertEqual(rounds_within(row, 0, -HUGE, None), None)
        self.assertEqual(rounds_within(row, -HUGE, -HUGE, HUGE), 2 * HUGE - 2)
        self.assertEqual(rounds_within((("add", -1),), HUGE, -HUGE, HUGE), 2 * HUGE)
        self.assertEqual(rounds_within((("add", -HUGE), ("floor", 0)), HUGE, 1, None), 0)
        self.assertEqual(rounds_within((("add", -1), ("floor", 0)), HUGE, 1, None), HUGE - 1)
        self.assertEqual(rounds_within((("add", -1), ("floor", 0)), HUGE, 0, HUGE), HUGE)
        self.assertIsNone(rounds_within((("add", -1), ("floor", 0)), HUGE, -1, HUGE))
        # From a start beyond the bounds none can be done, though the first one would lead between them.
        self.assertEqual(rounds_within((("floor", 3), ("cap", 3)), 9, 0, 5), 0)
        self.assertEqual(rounds_within((), 9, 0, 5), 0)
        self.assertIsNone(rounds_within((), 5, 5, 5))
        self.assertIsNone(rounds_within((), 5, None, None))
        self.assertEqual(rounds_within((("add", 9), ("cap", 0)), 0, None, 8), 0)
        self.assertIsNone(rounds_within((("add", 9), ("cap", 0)), 0, None, 9))

    def test_long_run(self):
        rng = random.Random("long run")
        for row in rows_of_rounds("long run"):
            for start in (rng.randint(-20, 20), 0):
                begin = start
                for _ in range(80):
                    begin = end(row, begin)
                told = stepped(row, begin) if end(row, begin) == begin else None
                self.assertEqual(long_run(row, start), told, (row, start))
                far = long_run(scaled(row, HUGE), start * HUGE)
                self.assertEqual(far, None if told is None else [level * HUGE for level in told], (row, start))

    def test_long_run_is_told_at_once(self):
        row = (("add", 1), ("cap", HUGE))
        self.assertEqual(long_run(row, -HUGE), [HUGE, HUGE + 1, HUGE])
        self.assertEqual(long_run((), HUGE), [HUGE])
        self.assertEqual(long_run(listed(row), -HUGE), long_run(row, -HUGE))
        self.assertIsNone(long_run((("add", 1),), 0))
        for row in random_rows("long run at once", 60, 9):
            told = long_run(row, 5)
            if told is not None:
                self.assertEqual(stepped(row, told[0]), told)
                self.assertEqual(told[-1], told[0])
                self.assertIn(told[0], [behind(triple_of(row), 5, many) for many in (0, 1, 10 ** 50)])


def triple_of(row):
    """The (shift, floor, cap) of a ROW, EVENT by EVENT."""
    total = (0, None, None)
    for word, number in row:
        event = {"add": (number, None, None), "floor": (0, number, None), "cap": (0, None, number)}[word]
        total = both(total, event)
    return total


if __name__ == "__main__":
    unittest.main()
