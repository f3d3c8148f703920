"""Tests of rings [7] and two_sided [8]."""

import unittest
from itertools import combinations
from random import Random

from heavycut.rings import is_ring, two_sided
from heavycut.sides import cut_ties, made_side
from heavycut.webs import made_web, tie_number
from samples import STRANGE, all_sides, check_repeated, random_web, ring_web, sample_webs


def is_round(web, numbers):
    """Tell by counting whether each point is an end of an even number of these ties."""
    ends = [end for number in numbers for end in web[1][number][:2]]
    return all(ends.count(point) % 2 == 0 for point in range(web[0]))


def all_choices(many):
    """Answer all tuples of rising numbers of so many, not empty."""
    return [choice for length in range(1, many + 1) for choice in combinations(range(many), length)]


class TestIsRing(unittest.TestCase):
    def test_three_points(self):
        web = ring_web(5, [0, 2, 3])
        self.assertIs(is_ring(web, (0, 1, 2)), True)
        for thing in ((0, 1), (1, 2), (0, 2), (0,), (1,), (2,), (0, 1, 2, 3), (1, 2, 3), (-1, 0, 1, 2)):
            self.assertIs(is_ring(web, thing), False, thing)

    def test_two_rounds(self):
        apart = made_web(6, [(a, b, (1, 1)) for a, b in ((0, 1), (1, 2), (0, 2), (3, 4), (4, 5), (3, 5))])
        sharing = made_web(5, [(a, b, (1, 1)) for a, b in ((0, 1), (1, 2), (0, 2), (2, 3), (3, 4), (2, 4))])
        for web in (apart, sharing):
            self.assertIs(is_ring(web, (0, 1, 2, 3, 4, 5)), True)
            self.assertIs(is_ring(web, (0, 1, 2)), True)
            self.assertIs(is_ring(web, (3, 4, 5)), True)
            for thing in ((0, 1, 2, 3), (0, 1, 2, 3, 4), (1, 2, 3, 4, 5), (0, 2, 3, 4, 5)):
                self.assertIs(is_ring(web, thing), False, thing)

    def test_all_choices_of_ties(self):
        for web in sample_webs():
            if len(web[1]) <= 9:
                for choice in all_choices(len(web[1])):
                    self.assertIs(is_ring(web, choice), is_round(web, choice))

    def test_each_side_cuts_an_even_number(self):
        for web in sample_webs():
            if len(web[1]) <= 8:
                rings = [choice for choice in all_choices(len(web[1])) if is_ring(web, choice)]
                for side in all_sides(web[0]):
                    cut = cut_ties(web, side)
                    for ring in rings:
                        self.assertEqual(len([tie for tie in ring if tie in cut]) % 2, 0)

    def test_not_rising_or_twice(self):
        web = ring_web(3, [0, 1, 2])
        for thing in ((0, 2, 1), (2, 1, 0), (1, 0, 2), (0, 0), (0, 0, 1, 1), (0, 0, 0, 1, 2), (0, 1, 1, 1, 2),
                      (0, 1, 2, 2), (0, 1, 2, 0, 1, 2), (0, 1, 2, 2, 2)):
            self.assertIs(is_ring(web, thing), False, thing)

    def test_numbers_that_are_none(self):
        web = ring_web(3, [0, 1, 2])
        for thing in ((False, 1, 2), (0, True, 2), (0, 1, 2.0), (0, "1", 2), (0, None, 2), (0, (1,), 2), (-3, -2, -1),
                      (0, 1, -1), (-1, 0, 1), (0, 1, 3), (1, 2, 3), (0, 1, 10 ** 999), (0, [1], 2), (0, float("nan"), 2)):
            self.assertIs(is_ring(web, thing), False, thing)

    def test_other_kinds(self):
        web = ring_web(3, [0, 1, 2])
        for thing in STRANGE + ((), [], [0, 1, 2], {0: 0, 1: 1, 2: 2}, {0, 1, 2}, range(3), "012", b"\x00\x01\x02"):
            self.assertIs(is_ring(web, thing), False, repr(thing))
        for web in (made_web(1, []), made_web(4, [])):
            for thing in STRANGE + ((), (0,), (0, 1, 2)):
                self.assertIs(is_ring(web, thing), False, repr(thing))

    def test_greatest(self):
        web = ring_web(60, list(range(60)))
        self.assertIs(is_ring(web, tuple(range(60))), True)
        self.assertIs(is_ring(web, tuple(range(59))), False)
        self.assertIs(is_ring(web, tuple(range(1, 60))), False)

    def test_same_call_again(self):
        web = ring_web(3, [0, 1, 2])
        for thing in ((0, 1, 2), [0, 1, 2], (0, [1], 2), {0: [1]}):
            check_repeated(self, is_ring, web, thing)


class TestTwoSided(unittest.TestCase):
    def check(self, web, kind=None):
        answer = check_repeated(self, two_sided, web)
        self.assertIsInstance(answer, tuple)
        word, found = answer
        if word == "side":
            self.assertIsInstance(found, tuple)
            self.assertEqual(repr(made_side(web, found)), repr(found))
            self.assertEqual(found[0], 0)
            self.assertEqual(cut_ties(web, found), tuple(range(len(web[1]))))
        else:
            self.assertEqual(word, "ring")
            self.assertIs(is_ring(web, found), True)
            self.assertTrue(is_round(web, found))
            self.assertEqual(len(found) % 2, 1)
        if kind is not None:
            self.assertEqual(word, kind)

    def test_samples(self):
        for web in sample_webs():
            cutting = [side for side in all_sides(web[0]) if len(cut_ties(web, side)) == len(web[1])]
            self.check(web, "side" if cutting else "ring")

    def test_without_ties(self):
        for many in (1, 2, 5, 60):
            self.check(made_web(many, []), "side")

    def test_rounds(self):
        for many in range(3, 61):
            self.check(ring_web(many, list(range(many))), "ring" if many % 2 else "side")
            self.check(ring_web(60, list(range(60 - many, 60))), "ring" if many % 2 else "side")

    def test_several_parts(self):
        even = [(0, 1), (1, 2), (2, 3), (0, 3), (10, 40), (40, 41), (41, 42), (10, 42)]
        odd = [(50, 51), (51, 52), (52, 53), (53, 54), (50, 54), (54, 55)]
        self.check(made_web(60, [(a, b, (0, 1)) for a, b in even]), "side")
        self.check(made_web(60, [(a, b, (0, 1)) for a, b in even + odd]), "ring")

    def test_ways_in_common_drop_out(self):
        # A long stem from point 0 leads to a round of three.
        stem = [(point, point + 1) for point in range(57)]
        web = made_web(60, [(a, b, (1, 1)) for a, b in stem + [(57, 58), (58, 59), (57, 59)]])
        ring = tuple(sorted([tie_number(web, 57, 58), tie_number(web, 58, 59), tie_number(web, 57, 59)]))
        self.assertEqual(two_sided(web), ("ring", ring))

    def test_all_webs_of_four_points(self):
        pairs = [(one, other) for one in range(4) for other in range(one + 1, 4)]
        for choice in [()] + all_choices(6):
            web = made_web(4, [pairs[number] + ((1, 1),) for number in choice])
            cutting = [side for side in all_sides(4) if len(cut_ties(web, side)) == len(web[1])]
            self.check(web, "side" if cutting else "ring")

    def test_great_webs(self):
        for seed in range(20):
            self.check(random_web(60, 30 + 7 * seed, seed))
            chance = Random(seed)
            bits = [chance.randrange(2) for point in range(60)]
            pairs = [(a, b) for a in range(60) for b in range(a + 1, 60) if bits[a] != bits[b]]
            self.check(made_web(60, [pair + ((1, 1),) for pair in chance.sample(pairs, 170)]), "side")


if __name__ == "__main__":
    unittest.main()
