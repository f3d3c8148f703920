"""Tests of webs switched at some of their points, with sides and papers led over [27]."""

import unittest
from itertools import combinations
from random import Random

from heavycut.cases import heaviest
from heavycut.errors import NoPaper
from heavycut.reader import bound_of, meets
from heavycut.switching import switched, switched_paper, switched_side
from heavycut.webs import made_web
from papersamples import (
    CASES, FACES, NO_PAPERS, NO_ROWS, RING, TRIANGLE, all_parted, no_papers_about, random_cases, random_paper, ring_paper,
    small_webs,
)
from samples import (
    all_sides, as_number, check_repeated, number_of, plane_web, random_turns, random_web, sample_webs, whole_web,
)

ONE = (1, 1)


def choices(many):
    """Answer all choices of some of so many points, as tuples."""
    return [some for length in range(many + 1) for some in combinations(range(many), length)]


def some_choices(many, seed):
    """Answer some choices of points, no points and all of them among these, in any order."""
    chance = Random(seed)
    found = [chance.sample(range(many), length) for length in range(many + 1)]
    return found + [tuple(some) for some in found]


def parting(many, points):
    """Answer the side that parts these points from the others."""
    bits = [1 if point in points else 0 for point in range(many)]
    return tuple([bit ^ bits[0] for bit in bits])


def exchanged(points, paper):
    """Answer a paper with its cases exchanged, made here."""
    if paper[0] == "rings":
        return paper
    name, one, other, together, apart = paper
    together, apart = exchanged(points, together), exchanged(points, apart)
    if len({one, other} & set(points)) == 1:
        together, apart = apart, together
    return ("cases", one, other, together, apart)


class TestSwitched(unittest.TestCase):
    def check(self, web, points):
        answer = check_repeated(self, switched, web, points)
        ties = [(a, b, (-weight[0] if len({a, b} & set(points)) == 1 else weight[0], weight[1])) for a, b, weight in web[1]]
        self.assertEqual(repr(answer), repr((web[0], tuple(ties))))
        self.assertEqual(repr(made_web(*answer)), repr(answer))
        self.assertEqual(repr(switched(answer, points)), repr(web))

    def test_written_out(self):
        web = made_web(4, [(0, 1, (3, 2)), (0, 2, (-1, 1)), (1, 2, (0, 1)), (2, 3, (7, 1))])
        self.assertEqual(switched(web, [2]), (4, ((0, 1, (3, 2)), (0, 2, ONE), (1, 2, (0, 1)), (2, 3, (-7, 1)))))
        self.assertEqual(switched(web, (2, 0)), (4, ((0, 1, (-3, 2)), (0, 2, (-1, 1)), (1, 2, (0, 1)), (2, 3, (-7, 1)))))
        self.assertEqual(switched(web, []), web)
        self.assertEqual(switched(web, (3, 1, 0, 2)), web)

    def test_small_webs(self):
        for seed, web in enumerate(sample_webs()):
            for points in choices(web[0])[:40] + some_choices(web[0], seed):
                self.check(web, points)

    def test_great_webs(self):
        for seed in range(3):
            for points in some_choices(60, seed):
                self.check(random_web(60, 170, seed), points)
        self.check(made_web(2, [(0, 1, (-1000000000, 1))]), [0])
        self.check(made_web(2, [(0, 1, (999999999, 1000))]), [1])


class TestSwitchedSide(unittest.TestCase):
    def test_all_sides(self):
        for seed, web in enumerate(sample_webs()):
            for points in some_choices(web[0], seed):
                other = switched(web, points)
                less = number_of(web, parting(web[0], points))
                found = []
                for side in all_sides(web[0]):
                    led = check_repeated(self, switched_side, web, points, side)
                    bits = [bit ^ (point in points) for point, bit in enumerate(side)]
                    self.assertEqual(repr(led), repr(tuple([bit ^ bits[0] for bit in bits])))
                    self.assertEqual(number_of(other, led), number_of(web, side) - less)
                    self.assertEqual(switched_side(web, points, led), side)
                    found.append(led)
                self.assertEqual(sorted(found), all_sides(web[0]))

    def test_written_out(self):
        web = whole_web(4)
        self.assertEqual(repr(switched_side(web, [1], (0, 1, 0, 1))), "(0, 0, 0, 1)")
        self.assertEqual(repr(switched_side(web, [0], (0, 1, 0, 1))), "(0, 0, 1, 0)")
        self.assertEqual(repr(switched_side(web, (0, 1, 2, 3), (0, 1, 0, 1))), "(0, 1, 0, 1)")
        self.assertEqual(repr(switched_side(web, (), (0, 1, 0, 1))), "(0, 1, 0, 1)")


class TestSwitchedPaper(unittest.TestCase):
    def check(self, web, points, paper):
        led = check_repeated(self, switched_paper, web, points, paper)
        self.assertEqual(repr(led), repr(exchanged(points, paper)))
        bound = as_number(bound_of(web, [], paper))
        self.assertEqual(as_number(bound_of(switched(web, points), [], led)), bound - number_of(web, parting(web[0], points)))
        self.assertEqual(switched_paper(switched(web, points), points, led), paper)

    def refused(self, web, paper):
        for points in ([], (0,), [0, 1]):
            with self.assertRaises(NoPaper):
                switched_paper(web, points, paper)

    def test_ring_papers(self):
        for web in small_webs():
            for seed in range(4):
                for points in some_choices(web[0], seed):
                    self.check(web, points, ring_paper(web, seed))

    def test_case_papers(self):
        for web in small_webs():
            for seed in range(4):
                paper = random_cases(web, [], seed, 1 + seed)[0]
                for points in some_choices(web[0], seed):
                    self.check(web, points, paper)

    def test_exchanged_just_if_one_is_among_the_points(self):
        self.assertEqual(switched_paper(TRIANGLE, [0], CASES), CASES[:3] + (CASES[4], CASES[3]))
        self.assertEqual(switched_paper(TRIANGLE, (1, 2), CASES), CASES[:3] + (CASES[4], CASES[3]))
        for points in ([], [2], (1, 0), [2, 1, 0]):
            self.assertEqual(switched_paper(TRIANGLE, points, CASES), CASES)
        paper = ("cases", 1, 2, CASES, NO_ROWS)
        self.refused(TRIANGLE, ("cases", 1, 2, paper, NO_ROWS))
        deep = all_parted(whole_web(5), [])
        for points in choices(5):
            self.check(whole_web(5), points, deep)

    def test_heaviest_sides_led_over(self):
        for seed in range(6):
            web = random_web(10, 30, seed)
            name, side, paper = heaviest(web, [])
            for points in some_choices(10, seed):
                other = switched(web, points)
                self.assertIs(meets(other, [], switched_side(web, points, side), switched_paper(web, points, paper)), True)

    def test_deep_cases(self):
        chain = made_web(60, [(point, point + 1, ONE) for point in range(59)])
        deep = NO_ROWS
        for point in range(59, 0, -1):
            deep = ("cases", 0, point, deep, NO_ROWS)
        for points in ([], [0], list(range(0, 60, 2))):
            self.check(chain, points, deep)

    def test_no_papers(self):
        for paper in NO_PAPERS:
            self.refused(TRIANGLE, paper)
        # These are papers, but for another web, or for wishes only.
        self.refused(made_web(3, []), RING)
        self.refused(TRIANGLE, ("rings", (((0,), ONE),)))
        self.refused(made_web(3, [(a, b, (-1, 1)) for a, b, weight in TRIANGLE[1]]), RING)

    def test_face_papers_that_are_right(self):
        self.assertIsNotNone(bound_of(TRIANGLE, [], FACES))
        self.refused(TRIANGLE, FACES)
        for web in small_webs():
            paper = random_paper(web, random_turns(web, 1), 1)
            self.assertIsNotNone(bound_of(web, [], paper))
            self.refused(web, paper)

    def test_anything_at_any_place(self):
        for paper in (RING, CASES):
            for thing in no_papers_about(paper):
                if bound_of(TRIANGLE, [], thing) is None:
                    self.refused(TRIANGLE, thing)
                else:
                    self.check(TRIANGLE, [1], thing)

    def test_changed_afterwards(self):
        points = [0, 2]
        web = random_web(5, 9, 1)
        answers = (switched(web, points), switched_side(web, points, (0, 1, 1, 0, 1)), switched_paper(web, points, NO_ROWS))
        shown = repr(answers)
        points[0] = 1
        points.append(4)
        self.assertEqual(repr(answers), shown)


class TestFlatSwitched(unittest.TestCase):
    def test_great_webs(self):
        web, turns = plane_web(7, lambda number, kind: (number % 9 - 4, 1))
        points = [point for point in range(49) if point % 3 == 1]
        self.assertEqual(switched(switched(web, points), tuple(points)), web)
        self.assertEqual(switched(switched(web, points), [point for point in range(49) if point % 3 != 1]), web)


if __name__ == "__main__":
    unittest.main()
