"""Tests of webs renamed, with sides and ring papers led over [28]."""

import unittest
from itertools import permutations
from random import Random

from heavycut.errors import NoPaper
from heavycut.firstpapers import first_paper
from heavycut.naming import renamed, renamed_paper, renamed_side
from heavycut.reader import bound_of
from heavycut.ringpapers import ring_bound
from heavycut.webs import made_web
from papersamples import (
    CASES, FACES, NO_PAPERS, NO_ROWS, RING, TRIANGLE, no_papers_about, random_cases, random_paper, ring_paper, small_webs,
)
from samples import all_sides, check_repeated, number_of, random_turns, random_web, sample_webs, whole_web

ONE = (1, 1)


def some_names(many, seed):
    """Answer some lists and tuples of all of so many points, once each."""
    chance = Random(seed)
    if many <= 3:
        return [list(names) for names in permutations(range(many))] + list(permutations(range(many)))
    found = [chance.sample(range(many), many) for k in range(4)] + [list(range(many))[::-1], list(range(many))]
    return found + [tuple(names) for names in found]


def ties_by_names(web, names):
    """Answer a dict that has, for each two names with a tie, the weight."""
    return {frozenset((names[a], names[b])): weight for a, b, weight in web[1]}


class TestRenamed(unittest.TestCase):
    def check(self, web, names):
        answer = check_repeated(self, renamed, web, names)
        self.assertEqual(answer[0], web[0])
        self.assertEqual(repr(made_web(*answer)), repr(answer))
        self.assertEqual(ties_by_names(answer, range(web[0])), ties_by_names(web, names))
        back = [names.index(point) for point in range(web[0])]
        self.assertEqual(repr(renamed(answer, back)), repr(web))

    def test_written_out(self):
        web = made_web(4, [(0, 1, (3, 2)), (0, 2, (-1, 1)), (2, 3, (0, 1))])
        self.assertEqual(renamed(web, [2, 0, 3, 1]), (4, ((0, 2, (3, 2)), (1, 3, (0, 1)), (2, 3, (-1, 1)))))
        self.assertEqual(renamed(web, (0, 1, 2, 3)), web)
        self.assertEqual(renamed(made_web(1, []), [0]), (1, ()))

    def test_small_and_great_webs(self):
        for seed, web in enumerate(sample_webs() + [random_web(60, 170, 1), made_web(60, [])]):
            for names in some_names(web[0], seed):
                self.check(web, names)


class TestRenamedSide(unittest.TestCase):
    def test_all_sides(self):
        for seed, web in enumerate(sample_webs()):
            for names in some_names(web[0], seed):
                other = renamed(web, names)
                found = []
                for side in all_sides(web[0]):
                    led = check_repeated(self, renamed_side, web, names, side)
                    self.assertEqual(led[0], 0)
                    for one in range(web[0]):
                        for two in range(one):
                            self.assertEqual(led[names[one]] == led[names[two]], side[one] == side[two])
                    self.assertEqual(number_of(other, led), number_of(web, side))
                    found.append(led)
                self.assertEqual(repr(sorted(found)), repr(all_sides(web[0])))

    def test_written_out(self):
        self.assertEqual(repr(renamed_side(whole_web(4), [2, 0, 3, 1], (0, 1, 1, 0))), "(0, 1, 1, 0)")
        self.assertEqual(repr(renamed_side(whole_web(4), (1, 0, 2, 3), (0, 1, 1, 0))), "(0, 1, 0, 1)")
        self.assertEqual(repr(renamed_side(whole_web(4), (1, 2, 0, 3), (0, 0, 0, 1))), "(0, 0, 0, 1)")


class TestRenamedPaper(unittest.TestCase):
    def check(self, web, names, paper):
        led = check_repeated(self, renamed_paper, web, names, paper)
        other = renamed(web, names)
        self.assertEqual(len(led[1]), len(paper[1]))
        for (ring, share), (led_ring, led_share) in zip(paper[1], led[1]):
            self.assertEqual(repr(led_share), repr(share))
            self.assertEqual(repr(led_ring), repr(tuple(sorted(set(led_ring)))))
            pairs = {frozenset((names[web[1][tie][0]], names[web[1][tie][1]])) for tie in ring}
            self.assertEqual({frozenset(other[1][tie][:2]) for tie in led_ring}, pairs)
        self.assertEqual(repr(ring_bound(other, [], led)), repr(ring_bound(web, [], paper)))
        self.assertIsNotNone(ring_bound(other, [], led))
        back = [names.index(point) for point in range(web[0])]
        self.assertEqual(repr(renamed_paper(other, back, led)), repr(paper))

    def refused(self, web, paper):
        for names in (list(range(web[0])), tuple(range(web[0]))[::-1]):
            with self.assertRaises(NoPaper):
                renamed_paper(web, names, paper)

    def test_ring_papers(self):
        for web in small_webs() + [made_web(1, [])]:
            for seed in range(4):
                for names in some_names(web[0], seed):
                    self.check(web, names, ring_paper(web, seed))

    def test_numbers_of_ties_fall(self):
        # The ties of the ring stand in another order behind the names.
        web = made_web(5, [(0, 1, ONE), (0, 4, ONE), (1, 4, ONE), (2, 3, ONE)])
        paper = ("rings", (((0, 1, 2), (1, 3)), ((0, 1, 2), (1, 5))))
        self.assertEqual(renamed_paper(web, [4, 3, 1, 0, 2], paper), ("rings", (((1, 2, 3), (1, 3)), ((1, 2, 3), (1, 5)))))
        for seed in range(30):
            self.check(web, Random(seed).sample(range(5), 5), paper)

    def test_great_webs(self):
        for seed in range(3):
            web = random_web(60, 170, seed)
            for names in some_names(60, seed):
                self.check(web, names, first_paper(web, []))

    def test_no_papers(self):
        for paper in NO_PAPERS:
            self.refused(TRIANGLE, paper)
        self.refused(made_web(3, []), RING)
        self.refused(TRIANGLE, ("rings", (((0,), ONE),)))

    def test_other_papers_that_are_right(self):
        for paper in (CASES, FACES, ("cases", 0, 1, NO_ROWS, NO_ROWS)):
            self.assertIsNotNone(bound_of(TRIANGLE, [], paper))
            self.refused(TRIANGLE, paper)
        for web in small_webs():
            self.refused(web, random_paper(web, random_turns(web, 1), 1))
            self.refused(web, random_cases(web, [], 1, 1)[0])

    def test_anything_at_any_place(self):
        for thing in no_papers_about(RING):
            if ring_bound(TRIANGLE, [], thing) is None:
                self.refused(TRIANGLE, thing)
            else:
                self.check(TRIANGLE, [1, 2, 0], thing)

    def test_changed_afterwards(self):
        names = [1, 2, 0]
        answers = (renamed(TRIANGLE, names), renamed_side(TRIANGLE, names, (0, 0, 1)), renamed_paper(TRIANGLE, names, RING))
        shown = repr(answers)
        names.reverse()
        self.assertEqual(repr(answers), shown)


if __name__ == "__main__":
    unittest.main()
