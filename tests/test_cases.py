"""Tests of heaviest sides with their papers [21], and of all heaviest sides [22]."""

import unittest
from fractions import Fraction
from random import Random

from heavycut.cases import all_heaviest, heaviest
from heavycut.errors import NoWishes, TooGreat
from heavycut.reader import bound_of, meets
from heavycut.webs import made_web
from heavycut.wishes import is_odd_ring
from samples import (
    STRANGE, all_sides, as_number, as_pair, check_repeated, is_kept, kept_sides, kept_wishes, most_weight, number_of,
    random_web, random_wishes, ring_web, sample_webs, whole_web,
)

ONE = (1, 1)
WRONG_WISHES = STRANGE + ([(0, 0, 1)], [(0, 3, 0)], [(0, 1, True)], [(0, 1)], [(0, 1, 0)] * 121)


def folded(many, groups, seed):
    """Answer wishes by which so many points fall into so many groups."""
    chance = Random(seed)
    return [(point, point % groups, chance.randrange(2)) for point in range(groups, many)]


def ends_of(paper):
    """Answer the list of all ring papers at the ends of a paper of cases."""
    return [paper] if paper[0] == "rings" else ends_of(paper[3]) + ends_of(paper[4])


def dense_web(many, told):
    """Answer the web of so many points with all ties, each of the weight that is told of its points."""
    return made_web(many, [(a, b, told(a, b)) for a in range(many) for b in range(a + 1, many)])


class Heaviest(unittest.TestCase):
    def check_paper(self, paper):
        self.assertIsInstance(paper, tuple)
        if paper[0] == "rings":
            self.assertEqual(len(paper), 2)
        else:
            self.assertEqual((paper[0], len(paper)), ("cases", 5))
            self.check_paper(paper[3])
            self.check_paper(paper[4])

    def check(self, web, wishes):
        """Check that the answer is a side and a paper that meet, by the reader."""
        answer = heaviest(web, wishes)
        self.assertIsInstance(answer, tuple)
        name, side, paper = answer
        self.assertEqual(name, "side")
        self.check_paper(paper)
        self.assertIs(meets(web, wishes, side, paper), True)
        self.assertTrue(all(is_kept(wish, side) for wish in wishes))
        return side, paper

    def check_ring(self, web, wishes):
        answer = heaviest(web, wishes)
        self.assertIsInstance(answer, tuple)
        name, ring = answer
        self.assertEqual(name, "ring")
        self.assertIs(is_odd_ring(web, wishes, ring), True)


class TestHeaviest(Heaviest):
    def test_small_webs(self):
        webs = sample_webs() + [random_web(2 + seed % 7, 3 * (seed % 9), seed) for seed in range(30)]
        for seed, web in enumerate(webs):
            side, paper = self.check(web, [])
            self.assertEqual(number_of(web, side), most_weight(web, []))
            self.assertEqual(as_number(bound_of(web, [], paper)), most_weight(web, []))
            if web[0] > 1:
                for length in range(1, 5):
                    wishes = kept_wishes(web[0], length, seed)
                    side, paper = self.check(web, wishes)
                    self.assertEqual(number_of(web, side), most_weight(web, wishes))
                    self.assertEqual(heaviest(web, tuple([list(wish) for wish in wishes])), heaviest(web, wishes))

    def test_wishes_kept_or_not(self):
        for seed in range(80):
            many = 2 + seed % 5
            web = random_web(many, 8, seed)
            wishes = random_wishes(many, 1 + seed % 6, seed)
            if kept_sides(many, wishes):
                side, paper = self.check(web, wishes)
                self.assertEqual(number_of(web, side), most_weight(web, wishes))
            else:
                self.check_ring(web, wishes)

    def test_one_point_and_no_ties(self):
        self.assertEqual(repr(heaviest(made_web(1, []), [])), "('side', (0,), ('rings', ()))")
        for many in (2, 16):
            side, paper = self.check(made_web(many, []), [])
            self.assertEqual(bound_of(made_web(many, []), [], paper), (0, 1))

    def test_weights_of_0_and_below(self):
        for many in (2, 5, 16):
            for weight in ((0, 1), (-1, 1), (-1000000000, 999)):
                side, paper = self.check(whole_web(many, weight), [])
                self.assertEqual(number_of(whole_web(many, weight), side), 0)
        web = dense_web(16, lambda a, b: ((a * b) % 3 - 1, 1))
        self.check(web, [])

    def test_16_groups_and_all_ties(self):
        for weight in (ONE, (1000000000, 999)):
            web = whole_web(16, weight)
            side, paper = self.check(web, [])
            self.assertEqual(number_of(web, side), 64 * as_number(weight))
            # All cases would have 32768 ends.
            self.assertLess(len(ends_of(paper)), 2000)
        for many in (13, 14, 15):
            side, paper = self.check(whole_web(many), [])
            self.assertEqual(number_of(whole_web(many), side), many // 2 * (many - many // 2))

    def test_16_groups_and_unlike_ties(self):
        for seed in range(3):
            chance = Random(seed)
            for told in (lambda a, b: (chance.choice((-1, 1)), 1), lambda a, b: (chance.randrange(1, 101), 1),
                         lambda a, b: (chance.randrange(-10 ** 9, 10 ** 9 + 1), 1), lambda a, b: (chance.choice((0, 1)), 1),
                         lambda a, b: (chance.randrange(-3, 4) if chance.randrange(3) == 0 else 0, 1)):
                self.check(dense_web(16, told), [])
        self.check(dense_web(16, lambda a, b: ((a + 1) * (b + 1), 1)), [])
        self.check(dense_web(16, lambda a, b: (1, 1000 - 16 * a - b)), [])
        self.check(dense_web(16, lambda a, b: (1000000000 - 16 * a - b, 1)), [])

    def test_against_all_sides_of_12_points(self):
        for seed in range(3):
            chance = Random(seed)
            web = dense_web(12, lambda a, b: (chance.randrange(-9, 12), 1))
            side, paper = self.check(web, [])
            self.assertEqual(number_of(web, side), most_weight(web, []))

    def test_webs_with_few_ties(self):
        for seed in range(10):
            self.check(random_web(16, 20 + 4 * seed, seed), [])
            self.check(random_web(16, 40, seed), kept_wishes(16, seed, seed))
        for many in range(3, 17):
            side, paper = self.check(ring_web(many, list(range(many))), [])
            self.assertEqual(number_of(ring_web(many, list(range(many))), side), many - many % 2)
            self.assertEqual(paper[0], "rings")

    def test_60_points_in_16_groups(self):
        for seed in range(6):
            web = random_web(60, 170, seed)
            great = made_web(60, [(a, b, as_pair(Fraction((-1) ** k * (10 ** 9 - 11 * k), 1000 - k)))
                                  for k, (a, b, weight) in enumerate(web[1])])
            for each in (web, great):
                for groups in (1, 2, 7, 15, 16):
                    self.check(each, folded(60, groups, seed))
            self.check(made_web(60, [(a, b, ONE) for a, b, weight in web[1]]), folded(60, 16, seed))
        chain = [(point, point + 1, point % 2) for point in range(44)]
        self.check(random_web(60, 170, 9), chain)
        self.check(random_web(60, 170, 9), (chain * 3)[:120])

    def test_too_great(self):
        for web, wishes in ((made_web(17, []), []), (whole_web(17), ()), (made_web(18, []), [(0, 17, 1), (17, 0, 1)] * 60),
                            (made_web(60, []), []), (random_web(60, 170, 1), folded(60, 17, 1)),
                            (made_web(60, []), [(0, 1, 1)] * 120)):
            with self.assertRaises(TooGreat):
                heaviest(web, wishes)
        self.check(made_web(17, [(3, 16, ONE)]), [(3, 16, 0)])
        self.check(made_web(17, [(3, 16, ONE)]), [(3, 16, 1)])

    def test_rings_ahead_of_too_great(self):
        self.check_ring(made_web(60, []), [(5, 9, 0), (9, 5, 1)])
        self.check_ring(whole_web(17), [(0, 1, 1), (1, 2, 1), (3, 4, 0), (0, 2, 1)])
        self.check_ring(random_web(60, 170, 1), [(0, 59, 0)] * 119 + [(0, 59, 1)])

    def test_no_wishes_first_of_all(self):
        for wishes in WRONG_WISHES:
            for web in (ring_web(3, [0, 1, 2]), made_web(1, [])):
                if wishes not in ([], ()):
                    with self.assertRaises(NoWishes):
                        heaviest(web, wishes)
                    with self.assertRaises(NoWishes):
                        all_heaviest(web, wishes)
        for function in (heaviest, all_heaviest):
            with self.assertRaises(NoWishes):
                function(made_web(60, []), [(0, 60, 1)])

    def test_same_call_again(self):
        for web in sample_webs():
            check_repeated(self, heaviest, web, [])
            check_repeated(self, heaviest, web, ())
        check_repeated(self, heaviest, random_web(20, 60, 1), [[point, point + 1, 1] for point in range(8)])
        check_repeated(self, heaviest, random_web(5, 9, 1), [[0, 1, 1], (0, 1, 0)])

    def test_changed_afterwards(self):
        wishes = [[0, 1, 1]]
        answer = heaviest(whole_web(4), wishes)
        shown = repr(answer)
        wishes[0][2] = 0
        wishes.append((2, 3, 0))
        self.assertEqual(repr(answer), shown)


class TestAllHeaviest(unittest.TestCase):
    def check(self, web, wishes):
        answer = check_repeated(self, all_heaviest, web, wishes)
        self.assertIsInstance(answer, list)
        sides = kept_sides(web[0], wishes)
        most = most_weight(web, wishes)
        self.assertEqual(repr(answer), repr(sorted([side for side in sides if number_of(web, side) == most])))
        return answer

    def test_small_webs(self):
        webs = sample_webs() + [random_web(2 + seed % 7, 3 * (seed % 9), seed) for seed in range(20)]
        for seed, web in enumerate(webs):
            self.check(web, [])
            if web[0] > 1:
                for length in range(1, 5):
                    self.check(web, kept_wishes(web[0], length, seed))
                    self.check(web, tuple(random_wishes(web[0], length, seed)))

    def test_written_out(self):
        self.assertEqual(all_heaviest(made_web(1, []), []), [(0,)])
        self.assertEqual(all_heaviest(made_web(3, []), []), [(0, 0, 0), (0, 0, 1), (0, 1, 0), (0, 1, 1)])
        self.assertEqual(all_heaviest(whole_web(3), []), [(0, 0, 1), (0, 1, 0), (0, 1, 1)])
        self.assertEqual(all_heaviest(whole_web(3), [(1, 0, 1)]), [(0, 1, 0), (0, 1, 1)])
        self.assertEqual(all_heaviest(whole_web(3), [(2, 0, 1), (1, 2, 1)]), [(0, 0, 1)])
        self.assertEqual(all_heaviest(whole_web(3), [(0, 1, 1), (0, 1, 0)]), [])

    def test_weights_close_to_each_other(self):
        web = made_web(3, [(0, 1, (1, 999)), (1, 2, (1, 1000)), (0, 2, (1, 1000))])
        self.assertEqual(all_heaviest(web, []), [(0, 1, 0), (0, 1, 1)])
        web = made_web(3, [(0, 1, (999999999, 1000)), (1, 2, (999999999, 1000)), (0, 2, (1000000000, 999))])
        self.check(web, [])

    def test_10_groups(self):
        self.assertEqual(len(self.check(whole_web(10), [])), 126)
        self.assertEqual(all_heaviest(made_web(10, []), []), all_sides(10))
        self.check(random_web(11, 30, 1), [(0, 10, 1)])
        self.check(random_web(12, 40, 2), [(3, 7, 0), (10, 11, 1)])
        web = random_web(60, 170, 3)
        for groups in (1, 2, 10):
            wishes = folded(60, groups, 5)
            answer = all_heaviest(web, wishes)
            side = heaviest(web, wishes)[1]
            self.assertIn(side, answer)
            self.assertEqual(answer, sorted(set(answer)))
            for other in answer:
                self.assertEqual(number_of(web, other), number_of(web, side))
                self.assertTrue(all(is_kept(wish, other) for wish in wishes))

    def test_too_great(self):
        for web, wishes in ((made_web(11, []), []), (whole_web(12), [(0, 11, 1)]), (made_web(60, []), ()),
                            (random_web(60, 170, 1), folded(60, 11, 1))):
            with self.assertRaises(TooGreat):
                all_heaviest(web, wishes)

    def test_wishes_that_cannot_be_kept(self):
        self.assertEqual(all_heaviest(made_web(60, []), [(0, 1, 1), (0, 1, 0)]), [])
        self.assertEqual(all_heaviest(whole_web(11), ((0, 1, 1), (0, 2, 1), (1, 2, 1))), [])
        self.assertEqual(all_heaviest(whole_web(4), [(0, 1, 1), (0, 1, 0)]), [])

    def test_lists_are_new(self):
        for wishes in ([], [(0, 1, 1)], [(0, 1, 1), (0, 1, 0)]):
            first = all_heaviest(whole_web(4), wishes)
            told = list(first)
            first.append(None)
            first.reverse()
            self.assertEqual(all_heaviest(whole_web(4), wishes), told)


if __name__ == "__main__":
    unittest.main()
