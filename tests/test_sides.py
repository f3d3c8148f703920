"""Tests of sides [5]."""

import unittest
from fractions import Fraction
from itertools import product

from heavycut.errors import NoSide
from heavycut.sides import cut_ties, lost_ties, made_side, weight_of
from heavycut.webs import made_web, size_of, top_of
from samples import STRANGE, all_sides, as_number, check_repeated, random_web, sample_webs


class TestMadeSide(unittest.TestCase):
    def refused(self, web, bits):
        with self.assertRaises(NoSide, msg=repr(bits)):
            made_side(web, bits)

    def test_lists_and_tuples(self):
        for many in range(1, 6):
            web = made_web(many, [])
            for bits in product((0, 1), repeat=many):
                side = bits if bits[0] == 0 else tuple(1 - bit for bit in bits)
                for told in (bits, list(bits)):
                    self.assertEqual(repr(check_repeated(self, made_side, web, told)), repr(side))

    def test_60_points(self):
        web = made_web(60, [])
        self.assertEqual(made_side(web, [1] + [0, 1] * 29 + [1]), (0,) + (1, 0) * 29 + (0,))

    def test_wrong_lengths(self):
        web = made_web(3, [(0, 1, (1, 1))])
        for bits in ((), [], (0,), (0, 1), [0, 1], (0, 1, 0, 1), [1, 0, 0, 0]):
            self.refused(web, bits)
        self.refused(made_web(1, []), ())
        self.refused(made_web(1, []), (0, 0))

    def test_wrong_bits(self):
        web = made_web(3, [(0, 1, (1, 1))])
        for bit in (2, -1, True, False, None, "0", "1", 0.0, 1.0, (0,), [1], {}, 10 ** 999, float("nan")):
            for place in range(3):
                bits = [0, 1, 0]
                bits[place] = bit
                self.refused(web, bits)
                self.refused(web, tuple(bits))

    def test_other_kinds(self):
        web = made_web(2, [(0, 1, (1, 1))])
        for bits in STRANGE + ("01", "00", {0: 0, 1: 1}, {0, 1}, b"\x00\x01", range(2), iter([0, 1])):
            self.refused(web, bits)

    def test_changed_afterwards(self):
        bits = [0, 1, 1]
        side = made_side(made_web(3, []), bits)
        bits[1] = 0
        self.assertEqual(side, (0, 1, 1))


class TestWeights(unittest.TestCase):
    def check_side(self, web, side):
        cut = [number for number, (one, other, weight) in enumerate(web[1]) if side[one] != side[other]]
        gainful = [number for number, tie in enumerate(web[1]) if tie[2][0] > 0]
        lost = [number for number in range(len(web[1])) if (number in cut) != (number in gainful)]
        weight = sum([as_number(web[1][number][2]) for number in cut], Fraction(0))
        self.assertEqual(cut_ties(web, side), tuple(cut))
        self.assertEqual(lost_ties(web, side), tuple(lost))
        self.assertEqual(weight_of(web, side), (weight.numerator, weight.denominator))
        sizes = sum([as_number(size_of(web, number)) for number in lost_ties(web, side)], Fraction(0))
        self.assertEqual(as_number(weight_of(web, side)), as_number(top_of(web)) - sizes)

    def test_over_all_sides(self):
        for web in sample_webs():
            for side in all_sides(web[0]):
                self.check_side(web, side)

    def test_great_webs(self):
        for seed in range(3):
            web = random_web(60, 170, seed)
            for step in range(2, 6):
                self.check_side(web, tuple([0 if point % step == 0 else 1 for point in range(60)]))

    def test_written_out(self):
        web = made_web(4, [(0, 1, (3, 1)), (0, 3, (-1, 2)), (1, 2, (1, 3)), (2, 3, (0, 1))])
        self.assertEqual(cut_ties(web, (0, 1, 1, 0)), (0, 3))
        self.assertEqual(lost_ties(web, (0, 1, 1, 0)), (2, 3))
        self.assertEqual(weight_of(web, (0, 1, 1, 0)), (3, 1))
        self.assertEqual(cut_ties(web, (0, 1, 0, 1)), (0, 1, 2, 3))
        self.assertEqual(lost_ties(web, (0, 1, 0, 1)), (1, 3))
        self.assertEqual(weight_of(web, (0, 1, 0, 1)), (17, 6))
        self.assertEqual(cut_ties(web, (0, 0, 0, 0)), ())
        self.assertEqual(lost_ties(web, (0, 0, 0, 0)), (0, 2))
        self.assertEqual(weight_of(web, (0, 0, 0, 0)), (0, 1))

    def test_same_call_again(self):
        for web in sample_webs():
            side = all_sides(web[0])[-1]
            for function in (cut_ties, lost_ties, weight_of):
                check_repeated(self, function, web, side)


if __name__ == "__main__":
    unittest.main()
