"""Tests of fractions [3]."""

import unittest
from fractions import Fraction
from math import gcd
from random import Random

from heavycut.fractions import added, as_fraction, common_bottom, is_fraction, less, minus, plus, times
from samples import STRANGE, as_number, check_repeated

LONG = 10 ** 400 + 267
OTHER_LONG = 7 ** 600


def some_fractions():
    """Answer fractions of all sizes and signs, some of them very close to each other."""
    fractions = [(0, 1), (1, 1), (-1, 1), (1, 2), (-1, 2), (1, 3), (2, 3), (5, 6), (-5, 6), (1, 6), (7, 1)]
    fractions += [(LONG, LONG + 1), (LONG - 1, LONG), (LONG + 1, LONG), (-LONG, LONG + 1), (1, LONG), (-1, LONG)]
    fractions += [(OTHER_LONG, 10 ** 500), (LONG, 1), (-LONG, 1), (1, OTHER_LONG), (10 ** 999, 3)]
    chance = Random(3)
    for top, bottom in [(chance.randrange(-99, 100), chance.randrange(1, 100)) for k in range(25)]:
        fractions.append((top // gcd(top, bottom), bottom // gcd(top, bottom)))
    return fractions


class TestIsFraction(unittest.TestCase):
    def test_fractions(self):
        for fraction in some_fractions():
            self.assertIs(is_fraction(fraction), True, fraction)

    def test_not_in_lowest_terms(self):
        for thing in ((0, 2), (0, 10 ** 300), (2, 4), (-3, 3), (6, 9), (2 * LONG, 4), (LONG * 3, OTHER_LONG * 3)):
            self.assertIs(is_fraction(thing), False, thing)

    def test_bottom_of_0_or_below(self):
        for thing in ((0, 0), (1, 0), (-1, 0), (1, -1), (0, -1), (1, -2), (-3, -4), (LONG, -1)):
            self.assertIs(is_fraction(thing), False, thing)

    def test_true_and_false_are_no_ints(self):
        for thing in ((True, 1), (1, True), (False, 1), (True, True), (False, True), (0, True), (True, 2)):
            self.assertIs(is_fraction(thing), False, thing)

    def test_other_numbers_of_parts(self):
        for thing in ((), (1,), (1, 1, 1), (0, 1, 1), (1, 2, None)):
            self.assertIs(is_fraction(thing), False, thing)

    def test_other_kinds(self):
        for thing in ([1, 2], [0, 1], "12", b"\x01\x02", {1: 1, 2: 2}, {1, 2}, (1.0, 1), (1, 1.0), (1, 2.0),
                      ("1", "2"), (1, "2"), ((1, 2), 1), (1, (1, 2)), (1, None), (None, 1), ([1], 2), range(1, 3)):
            self.assertIs(is_fraction(thing), False, thing)
        for thing in STRANGE:
            self.assertIs(is_fraction(thing), False, repr(thing))


class TestAsFraction(unittest.TestCase):
    def check(self, top, bottom):
        fraction = as_fraction(top, bottom)
        number = Fraction(top, bottom)
        self.assertEqual(fraction, (number.numerator, number.denominator))
        self.assertIs(is_fraction(fraction), True)

    def test_small_ints_of_any_sign(self):
        for top in range(-13, 14):
            for bottom in range(-13, 14):
                if bottom != 0:
                    self.check(top, bottom)

    def test_written_out(self):
        self.assertEqual(as_fraction(0, 5), (0, 1))
        self.assertEqual(as_fraction(0, -5), (0, 1))
        self.assertEqual(as_fraction(6, -4), (-3, 2))
        self.assertEqual(as_fraction(-6, -4), (3, 2))
        self.assertEqual(as_fraction(-6, 3), (-2, 1))

    def test_long_ints(self):
        for top in (LONG, -LONG, LONG * OTHER_LONG, 10 ** 999, 0, 1):
            for bottom in (LONG, -LONG, OTHER_LONG, LONG * 14, 10 ** 998, -1):
                self.check(top, bottom)


class TestReckoning(unittest.TestCase):
    def check_pair(self, one, other):
        first, second = as_number(one), as_number(other)
        for function, number in ((plus, first + second), (minus, first - second), (times, first * second)):
            result = function(one, other)
            self.assertEqual(result, (number.numerator, number.denominator), function)
            self.assertIs(is_fraction(result), True)
        self.assertIs(less(one, other), first < second)

    def test_as_numbers(self):
        fractions = some_fractions()
        for one in fractions:
            for other in fractions:
                self.check_pair(one, other)

    def test_written_out(self):
        self.assertEqual(plus((1, 2), (1, 2)), (1, 1))
        self.assertEqual(plus((1, 6), (1, 3)), (1, 2))
        self.assertEqual(minus((1, 6), (1, 6)), (0, 1))
        self.assertEqual(minus((1, 6), (2, 3)), (-1, 2))
        self.assertEqual(times((-2, 3), (3, 2)), (-1, 1))
        self.assertEqual(times((0, 1), (3, 2)), (0, 1))
        self.assertIs(less((1, 3), (1, 2)), True)
        self.assertIs(less((1, 2), (1, 2)), False)
        self.assertIs(less((-1, 2), (-1, 3)), True)

    def test_very_close(self):
        near = (LONG - 1, LONG)
        nearer = (LONG, LONG + 1)
        self.assertIs(less(near, nearer), True)
        self.assertIs(less(nearer, near), False)
        self.assertEqual(minus(nearer, near), (1, LONG * (LONG + 1)))

    def test_same_call_again(self):
        for function in (plus, minus, times, less):
            check_repeated(self, function, (5, 6), (-1, 6))
        check_repeated(self, as_fraction, 4, -6)
        for thing in (([1], 2), [1, 2], (1, 2), {1: [2]}):
            check_repeated(self, is_fraction, thing)


class TestMany(unittest.TestCase):
    def test_added(self):
        fractions = some_fractions()
        for length in list(range(9)) + [len(fractions)]:
            for kind in (list, tuple):
                total = sum([as_number(fraction) for fraction in fractions[:length]], Fraction(0))
                answer = check_repeated(self, added, kind(fractions[:length]))
                self.assertEqual(repr(answer), repr((total.numerator, total.denominator)))

    def test_common_bottom(self):
        self.assertEqual(common_bottom([]), 1)
        self.assertEqual(common_bottom([(0, 1), (5, 1)]), 1)
        self.assertEqual(common_bottom([(1, 4), (1, 6), (-5, 9)]), 36)
        self.assertEqual(common_bottom(((1, 999), (1, 1000))), 999000)


if __name__ == "__main__":
    unittest.main()
