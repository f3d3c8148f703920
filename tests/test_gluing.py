"""Tests of webs glued by wishes, with sides led back [29]."""

import unittest
from fractions import Fraction
from random import Random

from heavycut.cases import heaviest
from heavycut.errors import NoWishes, TooGreat
from heavycut.gluing import glued, led_back
from heavycut.webs import made_web
from heavycut.wishes import grouped
from samples import (
    STRANGE, all_sides, as_number, as_pair, check_repeated, is_kept, kept_sides, kept_wishes, most_weight, number_of,
    random_web, random_wishes, sample_webs, whole_web,
)

ONE = (1, 1)
MOST = 1000000000
WRONG_WISHES = STRANGE + ([(0, 0, 1)], [(0, 3, 0)], [(0, 1, True)], [(0, 1)], [(0, 1, 0)] * 121, [(-1, 0, 1)])


def folded(many, groups, seed):
    """Answer wishes by which so many points fall into so many groups."""
    chance = Random(seed)
    return [(point, point % groups, chance.randrange(2)) for point in range(groups, many)]


class Gluing(unittest.TestCase):
    def check_web(self, web, wishes):
        """Check the glued web and what stays outside against what is counted here, and answer both."""
        answer = check_repeated(self, glued, web, wishes)
        self.assertIsInstance(answer, tuple)
        other, outside = answer
        self.assertEqual(repr(made_web(*other)), repr(other))
        name, groups, marks = grouped(web, wishes)
        self.assertEqual(other[0], len(set(groups)))
        sums, beyond = {}, Fraction(0)
        for one, two, weight in web[1]:
            sign = 1 if marks[one] == marks[two] else -1
            beyond += as_number(weight) if sign == -1 else 0
            pair = tuple(sorted((groups[one], groups[two])))
            if pair[0] != pair[1]:
                sums[pair] = sums.get(pair, Fraction(0)) + sign * as_number(weight)
        self.assertEqual(repr(outside), repr(as_pair(beyond)))
        self.assertEqual(repr(other[1]), repr(tuple([pair + (as_pair(sums[pair]),) for pair in sorted(sums)])))
        return answer

    def check_side(self, web, wishes, side):
        """Check a side of the glued web led back, and answer it."""
        other, outside = glued(web, wishes)
        led = check_repeated(self, led_back, web, wishes, side)
        self.assertIsInstance(led, tuple)
        self.assertEqual(len(led), web[0])
        self.assertEqual(repr(led[0]), "0")
        self.assertTrue(all(repr(bit) in ("0", "1") for bit in led))
        self.assertTrue(all(is_kept(wish, led) for wish in wishes))
        self.assertEqual(number_of(web, led), number_of(other, side) + as_number(outside))
        return led

    def check(self, web, wishes):
        """Check the glued web, and all its sides led back: these are all sides that keep the wishes."""
        other, outside = self.check_web(web, wishes)
        found = [self.check_side(web, wishes, side) for side in all_sides(other[0])]
        self.assertEqual(sorted(found), kept_sides(web[0], wishes))
        self.assertEqual(most_weight(other, []) + as_number(outside), most_weight(web, wishes))

    def too_great(self, web, wishes):
        with self.assertRaises(TooGreat):
            glued(web, wishes)
        with self.assertRaises(TooGreat):
            glued(web, tuple([list(wish) for wish in wishes]))


class TestGlued(Gluing):
    def test_written_out(self):
        web = made_web(5, [(0, 1, (2, 1)), (0, 2, (3, 1)), (0, 4, (1, 2)), (1, 2, (5, 1)), (1, 3, (7, 1)), (3, 4, (-1, 3))])
        # Points 0 and 3 are apart, and so are 1 and 4.
        self.assertEqual(glued(web, [(0, 3, 1), (1, 4, 1)]), ((3, (
            (0, 1, (2 * 6 - 3 - 42 - 2, 6)), (0, 2, (3, 1)), (1, 2, (5, 1)))), (15, 2)))
        self.assertEqual(led_back(web, [(0, 3, 1), (1, 4, 1)], (0, 1, 1)), (0, 1, 1, 1, 0))
        self.assertEqual(glued(web, []), (web, (0, 1)))
        self.assertEqual(led_back(web, [], (0, 1, 0, 1, 1)), (0, 1, 0, 1, 1))
        together = [(0, point, 0) for point in range(1, 5)]
        self.assertEqual(glued(web, together), ((1, ()), (0, 1)))
        self.assertEqual(led_back(web, together, (0,)), (0, 0, 0, 0, 0))
        self.assertEqual(glued(web, [(0, point, 1) for point in range(1, 5)]), ((1, ()), (11, 2)))
        self.assertEqual(led_back(web, [(0, point, 1) for point in range(1, 5)], (0,)), (0, 1, 1, 1, 1))

    def test_turned_if_need_be(self):
        # The first point is the first of its group, so its mark is 0, and sides begin with 0 anyway.
        web = random_web(6, 10, 2)
        for wishes in ([(5, 0, 1)], [(5, 0, 1), (1, 2, 1), (3, 4, 1)], ((4, 1, 1), (1, 0, 1))):
            self.check(web, wishes)

    def test_small_webs(self):
        for seed, web in enumerate(sample_webs()):
            self.check(web, [])
            if web[0] > 1 and as_number((1000, 1)) > max([abs(as_number(tie[2])) for tie in web[1]] + [0]):
                for length in range(1, 7):
                    self.check(web, kept_wishes(web[0], length, seed + length))
                    self.check(web, tuple([list(wish) for wish in kept_wishes(web[0], length, seed)]))

    def test_weights_that_add_up_to_0(self):
        web = made_web(4, [(0, 2, ONE), (1, 2, ONE), (1, 3, (5, 1))])
        self.assertEqual(glued(web, [(0, 1, 1)]), ((3, ((0, 1, (0, 1)), (0, 2, (-5, 1)))), (6, 1)))
        web = made_web(4, [(0, 2, ONE), (1, 2, (-1, 1))])
        self.assertEqual(glued(web, [(0, 1, 0)]), ((3, ((0, 1, (0, 1)),)), (0, 1)))
        web = made_web(3, [(0, 2, (0, 1))])
        self.assertEqual(glued(web, [(0, 1, 1)]), ((2, ((0, 1, (0, 1)),)), (0, 1)))
        web = whole_web(6)
        self.check(web, [(0, 1, 1), (2, 3, 1), (4, 5, 1)])
        self.assertEqual(glued(web, [(0, 1, 1), (2, 3, 1), (4, 5, 1)])[0], (3, tuple([
            (a, b, (0, 1)) for a in range(3) for b in range(a + 1, 3)])))

    def test_ties_within_a_group(self):
        web = made_web(3, [(0, 1, (7, 2)), (0, 2, (-1, 1)), (1, 2, (4, 1))])
        self.assertEqual(glued(web, [(0, 1, 0)]), ((2, ((0, 1, (3, 1)),)), (0, 1)))
        self.assertEqual(glued(web, [(0, 1, 1)]), ((2, ((0, 1, (-5, 1)),)), (15, 2)))

    def test_great_webs(self):
        for seed in range(4):
            ties = random_web(60, 170, seed)[1]
            web = made_web(60, [(a, b, (weight[0] * 12 // weight[1], 7 if weight[0] * 12 // weight[1] % 7 else 1))
                                for a, b, weight in ties])
            for groups in (1, 2, 7, 16, 40):
                wishes = folded(60, groups, seed)
                other, outside = self.check_web(web, wishes)
                chance = Random(seed)
                for k in range(5):
                    self.check_side(web, wishes, (0,) + tuple([chance.randrange(2) for point in range(groups - 1)]))
                if groups <= 16:
                    name, side, paper = heaviest(other, [])
                    led = self.check_side(web, wishes, side)
                    self.assertEqual(number_of(web, led), number_of(web, heaviest(web, wishes)[1]))


class TestTooGreat(Gluing):
    def test_tops(self):
        for low, high in ((1, MOST), (MOST, MOST), (MOST // 2, MOST // 2 + 1), (-1, -MOST)):
            web = made_web(3, [(0, 2, (low, 1)), (1, 2, (high, 1))])
            self.too_great(web, [(0, 1, 0)])
            self.check(web, [(0, 1, 1)])
            self.check(web, [])
        for low, high in ((MOST // 2, MOST // 2), (-MOST, 0), (-1, 1 - MOST)):
            self.check(made_web(3, [(0, 2, (low, 1)), (1, 2, (high, 1))]), [(0, 1, 0)])
        # With the opposite sign for unlike marks.
        web = made_web(3, [(0, 2, (-1, 1)), (1, 2, (MOST, 1))])
        self.too_great(web, [(0, 1, 1)])
        self.check(web, [(0, 1, 0)])

    def test_bottoms(self):
        for one, other in (((1, 999), (1, 1000)), ((1, 7), (1, 143)), ((-1, 999), (1, 1000))):
            web = made_web(3, [(0, 2, one), (1, 2, other)])
            self.too_great(web, [(0, 1, 0)])
            self.too_great(web, [(0, 1, 1)])
        for one, other in (((1, 1000), (1, 1000)), ((1, 7), (1, 142)), ((1, 8), (1, 125)), ((1, 600), (1, 900))):
            web = made_web(3, [(0, 2, one), (1, 2, other)])
            self.check(web, [(0, 1, 0)])
        # Bottoms that are great only on the way.
        web = made_web(4, [(0, 3, (1, 999)), (1, 3, (1, 1000)), (2, 3, (-1, 999))])
        self.check(web, [(0, 1, 0), (1, 2, 0)])

    def test_what_stays_outside_may_be_great(self):
        web = made_web(4, [(0, 1, (MOST, 1)), (0, 2, (MOST, 1)), (0, 3, (1, 999)), (1, 2, (1, 1000))])
        self.assertEqual(glued(web, [(0, 1, 1), (0, 2, 1), (0, 3, 1)]), ((1, ()), as_pair(2 * MOST + Fraction(1, 999))))
        self.check(web, [(0, 1, 1), (0, 2, 1), (0, 3, 1)])

    def test_none_ahead_of_too_great(self):
        web = made_web(4, [(0, 2, (MOST, 1)), (1, 2, (MOST, 1))])
        self.too_great(web, [(0, 1, 0)])
        self.assertIsNone(glued(web, [(0, 1, 0), (1, 0, 1)]))
        self.assertIsNone(glued(web, [(0, 1, 0), (1, 3, 1), (3, 0, 0)]))

    def test_led_back_all_the_same(self):
        # Sides of the groups are led back by the groups alone.
        self.assertEqual(led_back(made_web(3, [(0, 2, (MOST, 1)), (1, 2, (MOST, 1))]), [(0, 1, 0)], (0, 1)), (0, 0, 1))


class TestWishes(Gluing):
    def test_wishes_that_cannot_be_kept(self):
        kept = 0
        for seed in range(60):
            many = 2 + seed % 5
            web = random_web(many, 8, seed)
            wishes = random_wishes(many, 1 + seed % 6, seed)
            if kept_sides(many, wishes):
                self.check(web, wishes)
                kept += 1
            else:
                self.assertIsNone(check_repeated(self, glued, web, wishes))
                self.assertIsNone(glued(web, tuple(wishes)))
        self.assertTrue(20 < kept < 50)

    def test_no_wishes_first_of_all(self):
        great = made_web(3, [(0, 2, (MOST, 1)), (1, 2, (MOST, 1))])
        for wishes in WRONG_WISHES:
            for web in (great, whole_web(3), made_web(1, [])):
                if wishes not in ([], ()):
                    with self.assertRaises(NoWishes):
                        glued(web, wishes)
                    for side in ((0,) * web[0], (0, 1), None, "no side", [1]):
                        with self.assertRaises(NoWishes):
                            led_back(web, wishes, side)
        with self.assertRaises(NoWishes):
            glued(great, [(0, 1, 0), (0, 1, 1), (0, 1, 2)])
        with self.assertRaises(NoWishes):
            glued(great, [(0, 1, 0)] * 121)

    def test_many_wishes(self):
        web = random_web(8, 12, 3)
        self.check(web, [(0, 1, 1)] * 120)
        self.check(web, [(0, 7, 1), (7, 0, 1), (3, 4, 0)] * 40)

    def test_changed_afterwards(self):
        wishes = [[0, 1, 1]]
        web = whole_web(4)
        answers = (glued(web, wishes), led_back(web, wishes, (0, 1, 0)))
        shown = repr(answers)
        wishes[0][2] = 0
        wishes.append((2, 3, 0))
        self.assertEqual(repr(answers), shown)


if __name__ == "__main__":
    unittest.main()
