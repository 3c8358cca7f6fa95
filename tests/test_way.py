"""The class Way: what it keeps, where it leads, and what Ways do one behind another."""

import random
import unittest

from boundedlevels.errors import Crossed, NoShift
from boundedlevels.ways import Way
from reckoning import FAR, HUGE, bound_triples, every_bounds, led_by

TRIPLES = bound_triples(2)
LARGE_TIMES = (10 ** 9, HUGE - 1, HUGE)


def parts(way):
    return (way.shift, way.floor, way.cap)


def starts_near(*triples):
    """Starts around all that can turn, far below and far above."""
    numbers = [abs(number) for triple in triples for number in triple if number is not None]
    reach = 2 * sum(numbers) + 3
    return [*range(-reach, reach + 1), *FAR]


def random_triple(rng, reach):
    low, high = sorted((rng.randint(-reach, reach), rng.randint(-reach, reach)))
    floor, cap = rng.choice(((None, None), (low, None), (None, high), (low, high), (low, low)))
    return (None if floor is not None and floor == cap else rng.randint(-reach, reach), floor, cap)


class Parts(unittest.TestCase):
    def test_without_bounds(self):
        for shift in (0, 4, -4, HUGE, -HUGE):
            way = Way(shift)
            self.assertEqual(parts(way), (shift, None, None))
            for start in (0, 7, -7, *FAR):
                self.assertEqual(way(start), start + shift)

    def test_all_kinds_of_bounds(self):
        for triple in bound_triples(3):
            way = Way(*triple)
            self.assertEqual(parts(way), triple)
            for start in starts_near(triple):
                self.assertEqual(way(start), led_by(triple, start), (triple, start))

    def test_far_bounds(self):
        rng = random.Random("far bounds")
        for _ in range(200):
            shift, floor, cap = random_triple(rng, HUGE)
            way = Way(shift, floor, cap)
            turns = [bound - (shift or 0) for bound in (floor, cap) if bound is not None]
            for start in [turn + step for turn in [0, *turns] for step in (-1, 0, 1)] + list(FAR):
                self.assertEqual(way(start), led_by((shift, floor, cap), start))

    def test_constants_have_no_shift(self):
        for shift in (None, 0, 7, -7, HUGE):
            for number in (0, 3, -3, HUGE):
                way = Way(shift, number, number)
                self.assertEqual(parts(way), (None, number, number))
                self.assertEqual([way(start) for start in (number - 1, number, number + 1, *FAR)], [number] * 11)

    def test_crossed_bounds(self):
        for shift in (0, 5, -5, None):
            for floor, cap in ((1, 0), (5, 3), (0, -1), (HUGE, -HUGE), (HUGE, HUGE - 1)):
                with self.subTest(shift=shift, floor=floor, cap=cap):
                    with self.assertRaises(Crossed) as caught:
                        Way(shift, floor, cap)
                    self.assertEqual((caught.exception.low, caught.exception.high), (floor, cap))

    def test_no_shift(self):
        for bounds in ((), (None, None), (0,), (0, None), (None, 0), (0, 1), (-1, 0), (-HUGE, HUGE), (3, 4)):
            with self.subTest(bounds=bounds), self.assertRaises(NoShift):
                Way(None, *bounds)

    def test_no_setters(self):
        way = Way(2, 0, 9)
        for name in ("shift", "floor", "cap", "text"):
            with self.subTest(name=name):
                with self.assertRaises(AttributeError):
                    setattr(way, name, 1)
                with self.assertRaises(AttributeError):
                    delattr(way, name)
        self.assertEqual((parts(way), way.text), ((2, 0, 9), "2 0 9"))

    def test_text(self):
        told = {
            Way(0).text: "0 - -", Way(-7).text: "-7 - -", Way(3, -2).text: "3 -2 -", Way(3, None, -2).text: "3 - -2",
            Way(0, -1, 1).text: "0 -1 1", Way(5, 0, 0).text: "- 0 0", Way(None, -3, -3).text: "- -3 -3",
            Way(HUGE, -HUGE).text: "1" + "0" * 30 + " -1" + "0" * 30 + " -",
        }
        for text, expected in told.items():
            self.assertEqual(text, expected)

    def test_equality(self):
        for triple in TRIPLES:
            for other in TRIPLES:
                self.assertIs(Way(*triple) == Way(*other), triple == other, (triple, other))
                self.assertIs(Way(*triple) != Way(*other), triple != other, (triple, other))
        self.assertTrue(Way(7, 3, 3) == Way(None, 3, 3) == Way(-1, 3, 3))
        self.assertTrue(Way(HUGE) == Way(HUGE))
        self.assertFalse(Way(HUGE) == Way(HUGE + 1))

    def test_equality_beside_what_is_no_way(self):
        class Look:
            shift, floor, cap, text = 2, 0, 9, "2 0 9"
            _shift, _floor, _cap = 2, 0, 9

        way = Way(2, 0, 9)
        for thing in (None, True, 2, "2 0 9", (2, 0, 9), [2, 0, 9], ("add", 2), (), Look(), way.text, object()):
            self.assertIs(way == thing, False)
            self.assertIs(way != thing, True)
            self.assertIs(thing == way, False)
            self.assertIs(thing != way, True)


class Behind(unittest.TestCase):
    def test_one_behind_the_other(self):
        for triple in TRIPLES:
            for other in TRIPLES:
                one, two = Way(*triple), Way(*other)
                both = one >> two
                for start in (*range(-9, 10), *FAR):
                    self.assertEqual(both(start), led_by(other, led_by(triple, start)), (triple, other, start))

    def test_one_behind_the_other_is_told_by_three_numbers(self):
        # Two Ways that do the same must be equal, so the parts of what >> tells are settled, too.
        same = {}
        for triple in TRIPLES:
            for other in TRIPLES:
                both = Way(*triple) >> Way(*other)
                ends = tuple(led_by(other, led_by(triple, start)) for start in (*range(-12, 13), *FAR))
                self.assertEqual(same.setdefault(ends, parts(both)), parts(both), (triple, other))
                if both.floor is not None and both.floor == both.cap:
                    self.assertIsNone(both.shift)
        self.assertEqual(len(set(same.values())), len(same))

    def test_far_ways_behind_each_other(self):
        rng = random.Random("behind")
        for _ in range(400):
            one, two = random_triple(rng, HUGE), random_triple(rng, HUGE)
            both = Way(*one) >> Way(*two)
            shifts = [triple[0] for triple in (one, two) if triple[0] is not None]
            bounds = [bound for triple in (one, two) for bound in triple[1:] if bound is not None]
            turns = [bound - shift for bound in bounds for shift in [0, sum(shifts), *shifts]]
            for start in [turn + step for turn in turns for step in (-1, 0, 1)] + list(FAR):
                self.assertEqual(both(start), led_by(two, led_by(one, start)), (one, two, start))

    def test_three_are_alike_however_they_are_joined(self):
        rng = random.Random("three")
        for _ in range(300):
            one, two, three = [Way(*random_triple(rng, rng.choice((3, HUGE)))) for _ in range(3)]
            self.assertTrue((one >> two) >> three == one >> (two >> three))

    def test_nothing_ahead_or_behind(self):
        for triple in TRIPLES:
            way = Way(*triple)
            self.assertTrue(Way(0) >> way == way == way >> Way(0))

    def test_behind_what_is_no_way(self):
        for thing in (3, None, "2 - -", (2, None, None), ("add", 2)):
            with self.assertRaises(TypeError):
                Way(2) >> thing
            with self.assertRaises(TypeError):
                thing >> Way(2)


class Times(unittest.TestCase):
    def test_so_many_times(self):
        for triple in TRIPLES:
            way = Way(*triple)
            done = Way(0)
            for times in range(8):
                many = way * times
                self.assertEqual(parts(many), parts(done), (triple, times))
                for start in (*range(-18, 19), *FAR):
                    level = start
                    for _ in range(times):
                        level = led_by(triple, level)
                    self.assertEqual(many(start), level, (triple, times, start))
                done = done >> way

    def test_no_times(self):
        for triple in (*TRIPLES, (None, HUGE, HUGE), (HUGE, None, 0)):
            self.assertEqual(parts(Way(*triple) * 0), (0, None, None))

    def test_very_many_times(self):
        for triple in TRIPLES:
            way = Way(*triple)
            shift, floor, cap = triple
            for times in LARGE_TIMES:
                many = way * times
                self.assertTrue(many == (way * (times - 1)) >> way == way >> (way * (times - 1)))
                self.assertTrue(many == (way * (times // 3)) >> (way * (times - times // 3)))
                if floor is None and cap is None:
                    self.assertEqual(parts(many), (shift * times, None, None))
                elif shift is not None and shift > 0 and cap is not None:
                    level = None if floor is None else cap
                    self.assertEqual(parts(many), (None if floor is not None else shift * times, level, cap))
                elif shift is not None and shift < 0 and floor is not None:
                    level = None if cap is None else floor
                    self.assertEqual(parts(many), (None if cap is not None else shift * times, floor, level))

    def test_very_many_times_by_hand(self):
        self.assertEqual((Way(10 ** 9, 0, HUGE) * (10 ** 20)).text,
                         f"{10 ** 29} {10 ** 29 - 10 ** 9} {HUGE}")
        self.assertEqual((Way(-1, 0, HUGE) * (HUGE - 1)).text, f"{1 - HUGE} 0 2")
        self.assertEqual((Way(-1, 0, HUGE) * HUGE).text, f"{-HUGE} 0 1")
        self.assertEqual((Way(1, -HUGE, HUGE) * HUGE).text, f"{HUGE} -1 {HUGE}")
        self.assertEqual((Way(HUGE) * HUGE).shift, 10 ** 60)
        self.assertEqual((Way(0, -1, 1) * HUGE).text, "0 -1 1")
        self.assertEqual((Way(None, 4, 4) * HUGE).text, "- 4 4")

    def test_times_by_what_is_no_number(self):
        for thing in (None, "3", (3,), Way(3)):
            with self.assertRaises(TypeError):
                Way(2) * thing

    def test_ways_stay_as_they_are(self):
        for triple in TRIPLES:
            one, two = Way(*triple), Way(-1, 0, 2)
            for _ in range(2):
                _ = (one >> two, two >> one, one * 0, one * 1, one * 3, one == two, one(5), one.text)
                self.assertEqual((parts(one), parts(two)), (triple, (-1, 0, 2)))
            held = one
            held >>= two
            self.assertEqual(parts(one), triple)
            held = one
            held *= 2
            self.assertEqual(parts(one), triple)


class Bounds(unittest.TestCase):
    def test_one_or_both_bounds_by_name(self):
        for floor, cap in every_bounds(1):
            way = Way(0, floor=floor, cap=cap)
            self.assertEqual((way.floor, way.cap), (floor, cap))


if __name__ == "__main__":
    unittest.main()
