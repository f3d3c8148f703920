"""Tests of lightest ring papers [19], of first papers and of papers mixed [20]."""

import unittest
from fractions import Fraction

from heavycut.errors import NoPaper, NoRing, NoShare, NoWishes
from heavycut.firstpapers import first_paper, lightest, mixed
from heavycut.ringpapers import ring_bound
from heavycut.webs import made_web
from samples import (
    DEEP_LIST, DEEP_TUPLE, STRANGE, as_number, as_pair, check_repeated, kept_sides, kept_wishes, most_weight,
    odd_rounds, packed_rows, random_web, random_wishes, ring_web, sample_webs, top_number, whole_web,
)

ONE = (1, 1)
NO_ROWS = ("rings", ())
TRIANGLE = made_web(3, [(0, 1, (3, 2)), (0, 2, ONE), (1, 2, (2, 1))])
UNKEPT = [(0, 1, 0), (1, 0, 1)]
WRONG_WISHES = STRANGE + ([(0, 0, 1)], [(0, 3, 0)], [(0, 1, True)], [(0, 1)], [(0, 1, 0)] * 121)


def small_webs():
    """Answer webs of which all choices of ties can be gone through."""
    webs = sample_webs() + [random_web(2 + seed % 5, 7, seed) for seed in range(12)]
    return [web for web in webs if web[0] > 1 and len(web[1]) <= 7]


class TestLightest(unittest.TestCase):
    def refused(self, web, wishes, ring):
        with self.assertRaises(NoRing, msg=repr(ring)):
            lightest(web, wishes, ring)

    def test_a_triangle(self):
        self.assertEqual(lightest(TRIANGLE, [], (0, 1, 2)), ("rings", (((0, 1, 2), ONE),)))
        for least in range(3):
            ties = [(a, b, (1, 3) if k == least else (2, 3)) for k, (a, b) in enumerate(((0, 1), (0, 2), (1, 2)))]
            self.assertEqual(lightest(made_web(3, ties), (), (0, 1, 2)), ("rings", (((0, 1, 2), (1, 3)),)))

    def test_sizes_and_not_weights(self):
        web = made_web(3, [(0, 1, (-5, 1)), (0, 2, (7, 2)), (1, 2, (-4, 1))])
        self.assertEqual(lightest(web, [], (0, 1, 2)), ("rings", (((0, 1, 2), (7, 2)),)))

    def test_a_tie_of_weight_0(self):
        web = made_web(3, [(0, 1, (0, 1)), (0, 2, (7, 2)), (1, 2, (-4, 1))])
        self.assertEqual(repr(lightest(web, [], (0, 1, 2))), repr(NO_ROWS))
        web = made_web(2, [(0, 1, (0, 1))])
        self.assertEqual(repr(lightest(web, [(0, 1, 1)], (0,))), repr(NO_ROWS))
        self.refused(web, [(0, 1, 0)], (0,))

    def test_odd_by_wishes_only(self):
        web = made_web(4, [(0, 1, (3, 1)), (0, 3, (-1, 2)), (1, 2, (2, 1)), (2, 3, ONE)])
        self.refused(web, [], (0,))
        self.assertEqual(lightest(web, [(1, 0, 0)], (0,)), ("rings", (((0,), (3, 1)),)))
        self.refused(web, [(1, 0, 1)], (0,))
        self.assertEqual(lightest(web, [(2, 0, 1)], (0, 2)), ("rings", (((0, 2), (2, 1)),)))
        self.refused(web, [(2, 0, 0)], (0, 2))
        self.assertEqual(lightest(web, [[2, 0, 0]], (1, 3)), ("rings", (((1, 3), (1, 2)),)))

    def test_all_choices_of_small_webs(self):
        for seed, web in enumerate(small_webs()):
            for wishes in ([], kept_wishes(web[0], 1 + seed % 3, seed)):
                rounds = odd_rounds(web, wishes)
                for choice in range(1 << len(web[1])):
                    ring = tuple([tie for tie in range(len(web[1])) if choice >> tie & 1])
                    if ring in rounds:
                        least = min([abs(as_number(web[1][tie][2])) for tie in ring])
                        told = ("rings", ((ring, as_pair(least)),) if least > 0 else ())
                        self.assertEqual(repr(check_repeated(self, lightest, web, wishes, ring)), repr(told))
                        self.assertEqual(as_number(ring_bound(web, wishes, told)), top_number(web) - least)
                    else:
                        self.refused(web, wishes, ring)

    def test_anything(self):
        for ring in STRANGE + ((), (0,), (0, 1), (0, 2, 1), (2, 1, 0), (0, 1, 1, 2), (0, 1, 2, 2), (0, 1, 3), (-1, 0, 1),
                               (0, 1, -1), (False, 1, 2), (0, True, 2), (0, 1, 2.0), (0, 1, "2"), (0, 1, None), [0, 1, 2],
                               {0: 0, 1: 1, 2: 2}, {0, 1, 2}, range(3), "012", (0, [1], 2), (0, 1, 10 ** 999), DEEP_TUPLE,
                               DEEP_LIST, ("rings", ()), (((0, 1, 2), ONE),)):
            self.refused(TRIANGLE, [], ring)
            self.refused(TRIANGLE, UNKEPT, ring)
        self.refused(ring_web(4, [0, 1, 2, 3]), [], (0, 1, 2, 3))

    def test_wishes_that_cannot_be_kept(self):
        for ring in ((0, 1, 2), (0,), (1,), None, DEEP_TUPLE):
            self.refused(TRIANGLE, UNKEPT, ring)
            self.refused(TRIANGLE, ((0, 1, 1), (1, 2, 1), (2, 0, 1)), ring)

    def test_no_wishes_first_of_all(self):
        for wishes in WRONG_WISHES:
            for ring in ((0, 1, 2), None, (), DEEP_LIST):
                with self.assertRaises(NoWishes):
                    lightest(TRIANGLE, wishes, ring)


class TestFirstPaper(unittest.TestCase):
    def read(self, web, wishes):
        paper = check_repeated(self, first_paper, web, wishes)
        bound = ring_bound(web, wishes, paper)
        self.assertIsNotNone(bound)
        self.assertEqual(first_paper(web, tuple([list(wish) for wish in wishes])), paper)
        shares = sum([as_number(share) for ring, share in paper[1]], Fraction(0))
        self.assertEqual(as_number(bound), top_number(web) - shares)
        return paper

    def test_small_webs(self):
        for seed in range(20):
            for web in small_webs():
                wishes = kept_wishes(web[0], seed % 4, seed)
                paper = self.read(web, wishes)
                self.assertGreaterEqual(as_number(ring_bound(web, wishes, paper)), most_weight(web, wishes))

    def test_no_ring_finds_room_behind_it(self):
        for seed in range(4):
            for web in small_webs():
                wishes = kept_wishes(web[0], seed, seed)
                left = [abs(as_number(weight)) for a, b, weight in web[1]]
                for ring, share in first_paper(web, wishes)[1]:
                    for tie in ring:
                        left[tie] -= as_number(share)
                for ring in odd_rounds(web, wishes):
                    self.assertEqual(min([left[tie] for tie in ring]), 0)

    def test_written_out(self):
        self.assertEqual(first_paper(TRIANGLE, []), ("rings", (((0, 1, 2), ONE),)))
        self.assertEqual(first_paper(made_web(1, []), []), NO_ROWS)
        self.assertEqual(first_paper(ring_web(6, [0, 1, 2, 3, 4, 5]), []), NO_ROWS)
        self.assertEqual(first_paper(made_web(2, [(0, 1, (5, 7))]), [(0, 1, 0)]), ("rings", (((0,), (5, 7)),)))
        self.assertEqual(first_paper(made_web(2, [(0, 1, (5, 7))]), [(0, 1, 1)]), NO_ROWS)
        self.assertEqual(first_paper(made_web(2, [(0, 1, (-5, 7))]), [(0, 1, 1)]), ("rings", (((0,), (5, 7)),)))
        self.assertEqual(first_paper(made_web(2, [(0, 1, (0, 1))]), [(0, 1, 1)]), NO_ROWS)

    def test_wishes_kept_or_not(self):
        for seed in range(60):
            many = 2 + seed % 4
            web = random_web(many, 6, seed)
            wishes = random_wishes(many, 1 + seed % 5, seed)
            if kept_sides(many, wishes):
                self.read(web, wishes)
            else:
                self.assertIsNone(first_paper(web, wishes))
                self.assertIsNone(first_paper(web, tuple(wishes)))

    def test_60_points_and_170_ties(self):
        for seed in range(4):
            web = random_web(60, 170, seed)
            great = made_web(60, [(a, b, as_pair(Fraction((-1) ** k * (10 ** 9 - 7 * k), 1000 - k)))
                                  for k, (a, b, weight) in enumerate(web[1])])
            for each in (web, great):
                self.assertTrue(self.read(each, [])[1])
                self.assertTrue(self.read(each, kept_wishes(60, 20 + 20 * seed, seed))[1])
                self.assertTrue(self.read(each, kept_wishes(60, 120, seed))[1])
                self.assertIsNone(first_paper(each, [(58, 59, 0)] * 119 + [(59, 58, 1)]))

    def test_no_wishes(self):
        for wishes in WRONG_WISHES:
            with self.assertRaises(NoWishes):
                first_paper(TRIANGLE, wishes)


class TestMixed(unittest.TestCase):
    def check(self, web, wishes, one, other, part):
        answer = check_repeated(self, mixed, web, wishes, one, other, part)
        rest = as_pair(1 - as_number(part))
        rows = []
        for paper, times in ((one, part), (other, rest)):
            rows += [(ring, as_pair(as_number(share) * as_number(times))) for ring, share in paper[1] if times[0] > 0]
        self.assertEqual(repr(answer), repr(("rings", tuple(rows))))
        bounds = [as_number(ring_bound(web, wishes, paper)) for paper in (one, other, answer)]
        self.assertEqual(bounds[2], as_number(part) * bounds[0] + as_number(rest) * bounds[1])
        return answer

    def refused(self, error, web, wishes, one, other, part):
        with self.assertRaises(error):
            mixed(web, wishes, one, other, part)

    def test_written_out(self):
        one, other = ("rings", (((0, 1, 2), ONE),)), ("rings", (((0, 1, 2), (1, 2)), ((0, 1, 2), (1, 3))))
        self.assertEqual(mixed(TRIANGLE, [], one, other, (1, 1)), one)
        self.assertEqual(mixed(TRIANGLE, [], one, other, (0, 1)), other)
        self.assertEqual(mixed(TRIANGLE, [], one, other, (1, 3)),
                         ("rings", (((0, 1, 2), (1, 3)), ((0, 1, 2), (1, 3)), ((0, 1, 2), (2, 9)))))
        self.assertEqual(mixed(TRIANGLE, [], NO_ROWS, NO_ROWS, (1, 3)), NO_ROWS)
        self.assertEqual(mixed(TRIANGLE, [], NO_ROWS, one, (1, 3)), ("rings", (((0, 1, 2), (2, 3)),)))
        self.assertEqual(mixed(TRIANGLE, [], one, NO_ROWS, (0, 1)), NO_ROWS)

    def test_small_webs(self):
        parts = ((0, 1), (1, 1), (1, 2), (1, 3), (2, 3), (999, 1000), (1, 10 ** 900), (10 ** 900 - 1, 10 ** 900))
        for seed in range(16):
            for web in small_webs():
                wishes = kept_wishes(web[0], seed % 4, seed)
                rounds = odd_rounds(web, wishes)
                one, other = [("rings", packed_rows(web, rounds, seed + k)) for k in (0, 100)]
                self.check(web, wishes, one, other, parts[seed % 8])
                self.check(web, tuple(wishes), first_paper(web, wishes), one, parts[seed % 8])

    def test_no_shares(self):
        one = ("rings", (((0, 1, 2), ONE),))
        for part in STRANGE + ((-1, 1), (-1, 10 ** 900), (10 ** 900 + 1, 10 ** 900), (1001, 1000), (2, 1), (2, 4), (2, 2), (0, 2),
                               (1, 0), (1, -2), (-1, -2), [1, 2], (1,), (1, 2, 3), (True, 1), (1, True), (False, 1), (0.5, 1),
                               0.5, Fraction(1, 2), "1/2", ((1, 2), (1, 2)), (), DEEP_TUPLE, {0: 1, 1: 2}):
            self.refused(NoShare, TRIANGLE, [], one, NO_ROWS, part)
            self.refused(NoShare, TRIANGLE, [], NO_ROWS, NO_ROWS, part)

    def test_no_papers_ahead_of_no_shares(self):
        one = ("rings", (((0, 1, 2), ONE),))
        turns = ((1, 2), (0, 2), (0, 1))
        zeros = ((0, 1), (0, 1))
        for paper in STRANGE + (
            ["rings", ()], ("rings",), ("rings", []), ("rings", (), ()), ("rings", (((0, 1, 2), (2, 1)),)),
            ("rings", (((0, 1), ONE),)), ("rings", (((0, 1, 2), (0, 1)),)), ("cases", 0, 1, NO_ROWS, NO_ROWS),
            ("faces", turns, (zeros, zeros), zeros, ()), ("rings", (((0,), ONE),)), (), [], DEEP_LIST,
        ):
            for part in ((1, 2), (0, 1), (1, 1), (3, 2), None, DEEP_TUPLE):
                self.refused(NoPaper, TRIANGLE, [], paper, one, part)
                self.refused(NoPaper, TRIANGLE, [], one, paper, part)
                self.refused(NoPaper, TRIANGLE, [], paper, paper, part)

    def test_papers_for_other_wishes(self):
        lone = ("rings", (((0,), ONE),))
        self.assertEqual(self.check(TRIANGLE, [(0, 1, 0)], lone, NO_ROWS, (1, 2)), ("rings", (((0,), (1, 2)),)))
        self.refused(NoPaper, TRIANGLE, [(0, 1, 1)], lone, NO_ROWS, (1, 2))
        self.refused(NoPaper, TRIANGLE, [], NO_ROWS, lone, (1, 2))

    def test_wishes_that_cannot_be_kept(self):
        for part in ((1, 2), None):
            self.refused(NoPaper, TRIANGLE, UNKEPT, NO_ROWS, NO_ROWS, part)
            self.refused(NoPaper, TRIANGLE, tuple(UNKEPT), None, DEEP_TUPLE, part)

    def test_no_wishes_first_of_all(self):
        for wishes in WRONG_WISHES:
            for one, part in ((NO_ROWS, (1, 2)), (None, (1, 2)), (NO_ROWS, None), (DEEP_TUPLE, DEEP_LIST)):
                self.refused(NoWishes, TRIANGLE, wishes, one, NO_ROWS, part)

    def test_great_webs(self):
        web = random_web(60, 170, 1)
        wishes = kept_wishes(60, 30, 1)
        self.check(web, wishes, first_paper(web, wishes), NO_ROWS, (3, 7))
        self.check(web, [], first_paper(web, []), first_paper(web, []), (3, 7))
        web = whole_web(6)
        self.check(web, [], first_paper(web, []), NO_ROWS, (3, 7))

    def test_changed_afterwards(self):
        wishes = [[0, 1, 0]]
        lone = ("rings", (((0,), ONE),))
        answers = (mixed(TRIANGLE, wishes, lone, NO_ROWS, (1, 2)), first_paper(TRIANGLE, wishes), lightest(TRIANGLE, wishes, (0,)))
        shown = repr(answers)
        wishes[0][2] = 1
        self.assertEqual(repr(answers), shown)


if __name__ == "__main__":
    unittest.main()
