"""Tests of webs scaled, and of papers scaled [30]."""

import unittest
from fractions import Fraction

from flatsamples import grown_flat, triangles
from heavycut.cases import heaviest
from heavycut.errors import NoPaper, NoShare, TooGreat
from heavycut.flatcuts import flat_heaviest
from heavycut.reader import bound_of, meets
from heavycut.scaling import scaled, scaled_paper
from heavycut.webs import made_web
from papersamples import (
    CASES, FACES, NO_PAPERS, NO_ROWS, RING, TRIANGLE, no_papers_about, random_cases, random_paper, ring_paper, small_webs,
)
from samples import (
    STRANGE, all_sides, as_number, as_pair, check_repeated, number_of, random_turns, random_web, sample_webs, whole_web,
)

ONE = (1, 1)
MOST = 1000000000
FACTORS = (ONE, (2, 1), (1, 2), (7, 3), (3, 7), (12, 1), (1, 5))
NO_FACTORS = STRANGE + (
    (0, 1), (-1, 1), (-1, 2), (2, 2), (4, 6), (1, 0), (1, -1), (-1, -1), [1, 1], [1, 2], (1,), (1, 1, 1), (1.0, 1), (1, 1.0),
    (True, 1), (1, True), ("1", 1), (1, None), Fraction(1, 2), Fraction(2), (0, 2), (-(10 ** 999), 1),
)


def fits(web, factor):
    """Tell whether all weights times the factor are weights."""
    terms = [as_number(weight) * as_number(factor) for a, b, weight in web[1]]
    return all(abs(term.numerator) <= MOST and term.denominator <= 1000 for term in terms)


def paper_times(paper, factor):
    """Answer a paper with all that is a fraction in it times the factor, made here."""
    def times(fraction):
        return as_pair(as_number(fraction) * as_number(factor))

    def rows_times(rows):
        return tuple([(some, times(share)) for some, share in rows])
    if paper[0] == "rings":
        return ("rings", rows_times(paper[1]))
    if paper[0] == "cases":
        return paper[:3] + (paper_times(paper[3], factor), paper_times(paper[4], factor))
    labels = tuple([tuple([times(label) for label in row]) for row in paper[2]])
    return ("faces", paper[1], labels, tuple([times(price) for price in paper[3]]), rows_times(paper[4]))


class TestScaled(unittest.TestCase):
    def check(self, web, factor):
        if not fits(web, factor):
            with self.assertRaises(TooGreat):
                scaled(web, factor)
            return False
        answer = check_repeated(self, scaled, web, factor)
        ties = [(a, b, as_pair(as_number(weight) * as_number(factor))) for a, b, weight in web[1]]
        self.assertEqual(repr(answer), repr((web[0], tuple(ties))))
        self.assertEqual(repr(made_web(*answer)), repr(answer))
        self.assertEqual(repr(scaled(answer, (factor[1], factor[0]))), repr(web))
        return True

    def test_written_out(self):
        web = made_web(3, [(0, 1, (3, 2)), (0, 2, (-4, 1)), (1, 2, (0, 1))])
        self.assertEqual(scaled(web, (2, 3)), (3, ((0, 1, ONE), (0, 2, (-8, 3)), (1, 2, (0, 1)))))
        self.assertEqual(scaled(web, (10, 1)), (3, ((0, 1, (15, 1)), (0, 2, (-40, 1)), (1, 2, (0, 1)))))
        self.assertEqual(scaled(web, ONE), web)
        self.assertEqual(scaled(made_web(60, []), (10 ** 900, 7)), (60, ()))
        self.assertEqual(scaled(made_web(2, [(0, 1, (0, 1))]), (1, 10 ** 900)), (2, ((0, 1, (0, 1)),)))

    def test_small_and_great_webs(self):
        found = {True: 0, False: 0}
        for web in sample_webs() + [random_web(60, 170, 1), whole_web(18, (MOST, 999))]:
            for factor in FACTORS + ((MOST, 1), (1, MOST), (1001, 1000), (999, 1000)):
                found[self.check(web, factor)] += 1
        self.assertGreater(min(found.values()), 10)

    def test_sides_weigh_times_the_factor(self):
        for web in small_webs():
            for factor in FACTORS:
                if fits(web, factor):
                    for side in all_sides(web[0]):
                        self.assertEqual(number_of(scaled(web, factor), side), number_of(web, side) * as_number(factor))

    def test_too_great(self):
        for weight, factor in (((MOST, 1), (MOST + 1, MOST)), ((MOST, 1), (2, 1)), ((-MOST, 7), (8, 7)), ((1, 1000), (1, 2)),
                               ((7, 1000), (1, 2)), ((1, 7), (1, 143)), ((1, 1), (1, 1001)), ((1, 1), (MOST + 1, 1)),
                               ((1, 1), (10 ** 999 - 1, 7)), ((-1, 1), (MOST + 1, 1)), ((1, 2), (1, 501))):
            web = made_web(3, [(0, 1, ONE), (0, 2, weight)])
            self.assertIs(fits(made_web(2, [(0, 1, weight)]), factor), False)
            with self.assertRaises(TooGreat):
                scaled(web, factor)
        for weight, factor in (((MOST, 1), (1, 1000)), ((999999999, 1000), (1000, 1)), ((1, 1), (MOST, 1)), ((-1, 1), (MOST, 1)),
                               ((1, 1), (1, 1000)), ((1, 2), (1, 500)), ((2, 1), (1, 2000)), ((1, 1000), (MOST, 1)),
                               ((0, 1), (MOST + 1, 1))):
            self.assertTrue(self.check(made_web(2, [(0, 1, weight)]), factor))

    def test_no_share_ahead_of_too_great(self):
        for web in (made_web(1, []), TRIANGLE, whole_web(3, (MOST, 1))):
            for factor in NO_FACTORS:
                with self.assertRaises(NoShare, msg=repr(factor)):
                    scaled(web, factor)


class TestScaledPaper(unittest.TestCase):
    def check(self, web, paper, factor):
        answer = check_repeated(self, scaled_paper, web, paper, factor)
        self.assertEqual(repr(answer), repr(paper_times(paper, factor)))
        bound = as_number(bound_of(web, [], paper)) * as_number(factor)
        self.assertEqual(repr(bound_of(scaled(web, factor), [], answer)), repr(as_pair(bound)))

    def refused(self, web, paper):
        for factor in (ONE, (1, 2), (0, 1), None, "1"):
            with self.assertRaises(NoPaper):
                scaled_paper(web, paper, factor)

    def test_all_kinds(self):
        for web in small_webs():
            for seed, factor in enumerate(FACTORS):
                if fits(web, factor):
                    self.check(web, ring_paper(web, seed), factor)
                    self.check(web, random_cases(web, [], seed, 1 + seed % 4)[0], factor)
                    self.check(web, random_paper(web, random_turns(web, seed), seed), factor)

    def test_written_out(self):
        self.assertEqual(scaled_paper(TRIANGLE, RING, (2, 3)), ("rings", (((0, 1, 2), (2, 3)),)))
        self.assertEqual(scaled_paper(TRIANGLE, CASES, (2, 1)), (
            "cases", 0, 1, ("rings", (((0,), (2, 1)),)), ("rings", (((1, 2), ONE),))))
        self.assertEqual(scaled_paper(TRIANGLE, FACES, (3, 1)), (
            "faces", FACES[1], (((0, 1), (3, 1)), ((3, 1), (0, 1))), ((3, 2), (3, 2)), ()))
        self.assertEqual(scaled_paper(TRIANGLE, NO_ROWS, (3, 1)), NO_ROWS)

    def test_heaviest_sides(self):
        for seed in range(5):
            web = random_web(9, 20, seed)
            name, side, paper = heaviest(web, [])
            for factor in ((6, 5), (1, 7)):
                self.check(web, paper, factor)
                self.assertIs(meets(scaled(web, factor), [], side, scaled_paper(web, paper, factor)), True)

    def test_flat_webs(self):
        flats = [triangles(3), triangles(16)]
        flats += [grown_flat(seed, 1 + seed % 2, 30, 12, seed % 2, lambda chance: (chance.randrange(-3, 9), 1)) for seed in range(8)]
        for web, turns in flats:
            side, paper = flat_heaviest((web, turns))
            for factor in ((6, 5), (1, 7)):
                self.check(web, paper, factor)
                self.assertIs(meets(scaled(web, factor), [], side, scaled_paper(web, paper, factor)), True)

    def test_no_papers_ahead_of_no_share(self):
        for paper in NO_PAPERS:
            self.refused(TRIANGLE, paper)
        self.refused(made_web(3, []), RING)
        self.refused(made_web(4, []), FACES)
        # A paper for wishes only.
        self.refused(TRIANGLE, ("rings", (((0,), ONE),)))

    def test_no_share(self):
        for paper in (RING, CASES, FACES, NO_ROWS):
            for factor in NO_FACTORS:
                with self.assertRaises(NoShare, msg=repr(factor)):
                    scaled_paper(TRIANGLE, paper, factor)

    def test_anything_at_any_place(self):
        for paper in (RING, CASES, FACES):
            for thing in no_papers_about(paper):
                if bound_of(TRIANGLE, [], thing) is None:
                    self.refused(TRIANGLE, thing)
                else:
                    self.check(TRIANGLE, thing, (3, 2))


if __name__ == "__main__":
    unittest.main()
