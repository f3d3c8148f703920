"""Tests of webs [4]."""

import unittest
from fractions import Fraction
from itertools import permutations, product

from heavycut.errors import NoWeb
from heavycut.webs import is_gainful, made_web, size_of, tie_number, top_of, whole_sum
from samples import STRANGE, as_number, check_repeated, sample_webs

PAIRS = [(one, other) for one in range(60) for other in range(one + 1, 60)]


def ties_of(many):
    """Answer so many ties between 60 points."""
    return [(one, other, (1, 2)) for one, other in PAIRS[:many]]


class TestMadeWeb(unittest.TestCase):
    def refused(self, many, ties):
        with self.assertRaises(NoWeb, msg=repr((many, ties))):
            made_web(many, ties)

    def test_any_order(self):
        web = (4, ((0, 1, (3, 1)), (0, 3, (-1, 2)), (2, 3, (0, 1))))
        for ties in permutations(web[1]):
            for turns in product((False, True), repeat=3):
                told = [(b, a, w) if turn else (a, b, w) for turn, (a, b, w) in zip(turns, ties)]
                self.assertEqual(made_web(4, told), web)

    def test_lists_and_tuples(self):
        web = (3, ((0, 1, (3, 1)), (1, 2, (-1, 2))))
        first, second = (1, 2, (-1, 2)), (1, 0, (3, 1))
        for ties in ([first, second], (first, second), [list(first), list(second)], (list(first), second)):
            self.assertEqual(repr(check_repeated(self, made_web, 3, ties)), repr(web))

    def test_pairs_rise_as_numbers(self):
        web = made_web(12, [(10, 11, (1, 1)), (2, 10, (1, 1)), (9, 2, (1, 1)), (1, 11, (1, 1))])
        self.assertEqual([tie[:2] for tie in web[1]], [(1, 11), (2, 9), (2, 10), (10, 11)])

    def test_edges_that_are_taken(self):
        self.assertEqual(made_web(1, []), (1, ()))
        self.assertEqual(made_web(1, ()), (1, ()))
        self.assertEqual(made_web(60, []), (60, ()))
        self.assertEqual(made_web(60, [(59, 0, (1, 1))]), (60, ((0, 59, (1, 1)),)))
        self.assertEqual(made_web(60, ties_of(170)), (60, tuple(ties_of(170))))
        for weight in ((-1000000000, 1), (1000000000, 1), (1, 1000), (-1, 1000), (0, 1), (1000000000, 999)):
            self.assertEqual(made_web(2, [(0, 1, weight)]), (2, ((0, 1, weight),)))

    def test_one_beyond_the_edges(self):
        self.refused(0, [])
        self.refused(-1, [])
        self.refused(61, [])
        self.refused(60, ties_of(171))
        self.refused(60, tuple(ties_of(171)))
        self.refused(10 ** 999, [])
        for weight in ((-1000000001, 1), (1000000001, 1), (1, 1001), (-1, 1001), (10 ** 999, 1), (1, 10 ** 999)):
            self.refused(2, [(0, 1, weight)])

    def test_same_two_points_twice(self):
        for weight in ((1, 1), (2, 1), (-1, 3)):
            self.refused(3, [(0, 1, (1, 1)), (0, 1, weight)])
            self.refused(3, [(0, 1, (1, 1)), (1, 0, weight)])
            self.refused(3, [(0, 1, (1, 1)), (1, 2, (1, 1)), (0, 2, (1, 1)), (1, 0, weight)])

    def test_wrong_points(self):
        for one, other in ((0, 0), (2, 2), (0, 3), (3, 0), (-1, 0), (0, -1), (0, 10 ** 999), (True, 0), (0, True),
                           (False, 1), (1, False), ("0", 1), (0, "1"), (0.0, 1), (0, 1.0), (None, 1), (0, None),
                           ((0,), 1), (0, [1]), (float("nan"), 1)):
            self.refused(3, [(one, other, (1, 1))])

    def test_a_web_of_one_point_has_no_ties(self):
        self.refused(1, [(0, 0, (1, 1))])
        self.refused(1, [(0, 1, (1, 1))])

    def test_wrong_weights(self):
        for weight in ([1, 2], [1, 1], (2, 4), (0, 2), (1, 0), (1, -1), (True, 1), (1, True), (1, 1, 1), (1,), (), 1,
                       "1", "1/2", 0.5, None, (1.0, 1), ("1", "2"), {1: 1}, {1: 2, 2: 1}, ((1, 2), 1)):
            self.refused(3, [(0, 1, weight)])
        for weight in STRANGE:
            self.refused(3, [(0, 1, weight)])

    def test_wrong_ties(self):
        for tie in ((0, 1), (0, 1, (1, 1), 0), [0, 1], [0, 1, (1, 1), (1, 1)], (), [], "abc", {0: 0, 1: 1, 2: (1, 1)},
                    ((0, 1), (1, 1)), {0, 1, 2}):
            self.refused(3, [tie])
            self.refused(3, [(0, 1, (1, 1)), tie])
        for tie in STRANGE:
            self.refused(3, [tie])

    def test_wrong_many(self):
        for many in (True, False, None, "3", 3.0, (3,), [3], {}, {3: 3}, b"3", "", (), float("nan")):
            self.refused(many, [])
            self.refused(many, [(0, 1, (1, 1))])

    def test_wrong_kinds_of_ties(self):
        for ties in STRANGE + ("", "abc", {}, set(), {(0, 1, (1, 1))}, {(0, 1, (1, 1)): 1}, range(0), iter([])):
            self.refused(3, ties)

    def test_changed_afterwards(self):
        inner = [0, 1, (1, 2)]
        ties = [inner, (1, 2, (3, 1))]
        web = made_web(3, ties)
        inner[2] = (7, 1)
        ties.pop()
        self.assertEqual(web, (3, ((0, 1, (1, 2)), (1, 2, (3, 1)))))


class TestTies(unittest.TestCase):
    def test_tie_number(self):
        for web in sample_webs():
            pairs = [tie[:2] for tie in web[1]]
            for one in range(web[0]):
                for other in range(web[0]):
                    pair = (min(one, other), max(one, other))
                    number = pairs.index(pair) if pair in pairs else None
                    self.assertEqual(tie_number(web, one, other), number)

    def test_tie_number_of_the_last_of_many(self):
        web = made_web(60, ties_of(170))
        one, other = PAIRS[169]
        self.assertEqual(tie_number(web, one, other), 169)
        self.assertEqual(tie_number(web, other, one), 169)
        self.assertIsNone(tie_number(web, 58, 59))

    def test_size_and_gain(self):
        web = made_web(4, [(0, 1, (3, 1)), (0, 2, (-1, 2)), (1, 3, (-1000000000, 1)), (2, 3, (0, 1))])
        self.assertEqual([size_of(web, tie) for tie in range(4)], [(3, 1), (1, 2), (1000000000, 1), (0, 1)])
        for tie, gainful in enumerate((True, False, False, False)):
            self.assertIs(is_gainful(web, tie), gainful)

    def test_sums(self):
        for web in sample_webs():
            weights = [as_number(weight) for one, other, weight in web[1]]
            top = sum([weight for weight in weights if weight > 0], Fraction(0))
            whole = sum(weights, Fraction(0))
            self.assertEqual(check_repeated(self, top_of, web), (top.numerator, top.denominator))
            self.assertEqual(check_repeated(self, whole_sum, web), (whole.numerator, whole.denominator))

    def test_sums_written_out(self):
        web = made_web(4, [(0, 1, (1, 6)), (0, 2, (-1, 2)), (1, 3, (1, 3)), (2, 3, (0, 1))])
        self.assertEqual(top_of(web), (1, 2))
        self.assertEqual(whole_sum(web), (0, 1))
        self.assertEqual(top_of((5, ())), (0, 1))
        self.assertEqual(whole_sum((5, ())), (0, 1))

    def test_same_call_again(self):
        for web in sample_webs():
            for number, tie in enumerate(web[1]):
                check_repeated(self, tie_number, web, tie[1], tie[0])
                check_repeated(self, size_of, web, number)
                check_repeated(self, is_gainful, web, number)


if __name__ == "__main__":
    unittest.main()
