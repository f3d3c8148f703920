"""Tests of face papers [15]."""

import unittest
from fractions import Fraction
from random import Random

from heavycut.facepapers import face_bound
from heavycut.reader import bound_of
from heavycut.turns import beside, odd_faces
from heavycut.webs import made_web
from papersamples import made_labels, random_paper
from samples import (
    STRANGE, as_number, as_pair, check_repeated, most_weight, other_lengths, plane_web, random_turns, random_web,
    ring_web, sample_webs, strange_places, top_number, whole_web, with_other, wrong_kinds,
)

ONE = (1, 1)
ZERO = (0, 1)
HALF = (1, 2)

TRIANGLE = made_web(3, [(0, 1, (3, 2)), (0, 2, ONE), (1, 2, (2, 1))])
TRIANGLE_TURNS = ((1, 2), (0, 2), (0, 1))
TRIANGLE_PAPER = ("faces", TRIANGLE_TURNS, ((ZERO, ONE), (ONE, ZERO)), (HALF, HALF), ())

# Points 3 and 4 stand on either side of the heavy triangle 0, 1, 2; all six faces are odd.
TWO_TENTS = made_web(5, [(0, 1, (10, 1)), (0, 2, (10, 1)), (1, 2, (10, 1))] + [
    (point, top, ONE) for point in range(3) for top in (3, 4)
])
TWO_TENTS_TURNS = ((1, 3, 2, 4), (2, 3, 0, 4), (0, 3, 1, 4), (0, 1, 2), (2, 1, 0))


class FacePapers(unittest.TestCase):
    def read(self, web, paper, bound=None):
        answer = check_repeated(self, face_bound, web, paper)
        self.assertIsNotNone(answer, repr(paper))
        if bound is not None:
            self.assertEqual(repr(answer), repr(bound), repr(paper))
        told = [as_number(price) for price in paper[3]] + [as_number(share) for some, share in paper[4]]
        self.assertEqual(as_number(answer), top_number(web) - sum(told, Fraction(0)))
        self.assertGreaterEqual(as_number(answer), most_weight(web, []))
        self.assertEqual(bound_of(web, [], paper), answer)
        return answer

    def refused(self, web, paper):
        self.assertIsNone(face_bound(web, paper), repr(paper))
        self.assertIsNone(bound_of(web, [], paper), repr(paper))


class TestRead(FacePapers):
    def test_a_triangle(self):
        self.read(TRIANGLE, TRIANGLE_PAPER, (7, 2))
        for prices in (((1, 4), (3, 4)), ((3, 1), (-2, 1)), ((-7, 3), (10, 3)), (ONE, ZERO)):
            self.read(TRIANGLE, TRIANGLE_PAPER[:3] + (prices, ()), (7, 2))
        self.read(TRIANGLE, TRIANGLE_PAPER[:3] + ((ZERO, ZERO), ()), (9, 2))
        self.read(TRIANGLE, TRIANGLE_PAPER[:3] + (((-1, 1), (-1, 1)), ()), (13, 2))

    def test_prices_a_little_beyond(self):
        for prices in (((1, 2), (501, 1000)), ((1001, 1000), ZERO), ((3, 1), (-1999, 1000)), (HALF, (10 ** 900 + 2, 2 * 10 ** 900 + 2))):
            self.refused(TRIANGLE, TRIANGLE_PAPER[:3] + (prices, ()))

    def test_labels_at_their_bounds(self):
        # Of the two labels only that in the row of the first odd face is asked for prices.
        for labels in (((ZERO, ONE), (ZERO, ZERO)), ((ZERO, ONE), ((-1, 1), ZERO)), ((ZERO, ONE), (ONE, ZERO))):
            self.read(TRIANGLE, ("faces", TRIANGLE_TURNS, labels, (HALF, HALF), ()), (7, 2))
        for labels in (((ZERO, (1001, 1000)), (ONE, ZERO)), ((ZERO, ONE), ((1001, 1000), ZERO)),
                       ((ZERO, ONE), ((-1001, 1000), ZERO)), ((ZERO, (999, 1000)), (ONE, ZERO)), ((ZERO, ZERO), (ONE, ZERO)),
                       ((ZERO, (-1, 1)), (ONE, ZERO)), (((1, 1000), ONE), (ONE, ZERO)), ((ONE, ONE), (ONE, ONE)),
                       ((ZERO, ONE), (ONE, (1, 1000))), ((ONE, ZERO), (ZERO, ONE)), ((ONE, (2, 1)), (ONE, ZERO))):
            self.refused(TRIANGLE, ("faces", TRIANGLE_TURNS, labels, (HALF, HALF), ()))
        low = ("faces", TRIANGLE_TURNS, ((ZERO, (-1, 1)), (ONE, ZERO)), ((-1, 2), (-1, 2)), ())
        self.read(TRIANGLE, low, (11, 2))
        self.refused(TRIANGLE, low[:3] + (((-1, 2), (-1, 3)), ()))

    def test_groups_at_their_bounds(self):
        labels = made_labels(TWO_TENTS, TWO_TENTS_TURNS, 0)
        near = [other for other in range(6) if labels[0][other] in (ZERO, ONE)]
        self.assertEqual(len(near), 3)
        far = [other for other in range(6) if other not in near]
        halves = (HALF,) * 6
        for some in (near, far):
            paper = ("faces", TWO_TENTS_TURNS, labels, halves, ((tuple(some), (9, 1)),))
            self.assertEqual(self.read(TWO_TENTS, paper), (24, 1))
            self.refused(TWO_TENTS, paper[:4] + (((tuple(some), (9001, 1000)),),))
        self.assertEqual(most_weight(TWO_TENTS, []), 24)
        both = ((tuple(near), (9, 2)), (tuple(far), (9, 2)))
        self.read(TWO_TENTS, paper[:4] + (both,), (24, 1))
        self.read(TWO_TENTS, paper[:4] + (both[::-1],), (24, 1))
        twice = ((tuple(near), (4, 1)), (tuple(near), (5, 1)))
        self.read(TWO_TENTS, paper[:4] + (twice,), (24, 1))
        self.refused(TWO_TENTS, paper[:4] + (both + ((tuple(far), (1, 1000)),),))
        self.refused(TWO_TENTS, paper[:4] + (twice + ((tuple(far), (1, 1000)),),))
        # Within a group its share stands at no two faces.
        self.refused(TWO_TENTS, ("faces", TWO_TENTS_TURNS, labels, (HALF,) * 5 + ((501, 1000),), ()))

    def test_groups_that_are_none(self):
        labels = made_labels(TWO_TENTS, TWO_TENTS_TURNS, 0)
        low = ((-100, 1),) * 6
        head = ("faces", TWO_TENTS_TURNS, labels, low)
        for some in ((0, 1, 2), (0, 1, 2, 3, 4), (1, 3, 5), (1, 2, 3, 4, 5)):
            self.read(TWO_TENTS, head + (((some, ONE),),), (635, 1))
        for some in ((), (0,), (5,), (0, 1), (0, 1, 2, 3), (0, 1, 2, 3, 4, 5), (1, 0, 2), (2, 1, 0), (0, 1, 1), (0, 0, 1), (0, 0, 0),
                     (0, 1, 6), (-1, 0, 1), (0, 1, -1), (False, 1, 2), (0, True, 2), (0, 1, 2.0), (0, 1, "2"), (0, 1, None),
                     (0, 1, (2,)), [0, 1, 2], {0, 1, 2}, "012", range(3), None, 3, (0, 1, 2, 3, 4, 5, 6), (0, 1, 10 ** 999)):
            self.refused(TWO_TENTS, head + (((some, ONE),),))
            self.refused(TWO_TENTS, head + ((((0, 1, 2), ONE), (some, ONE)),))
        for share in (ZERO, (-1, 1), (2, 2), (1, 0), (1, -1), [1, 1], 1, True, None, "1", (1,), (1, 1, 1), (True, 1), (1.0, 1)):
            self.refused(TWO_TENTS, head + ((((0, 1, 2), share),),))
        for groups in (None, 0, [], {}, "", [((0, 1, 2), ONE)], (None,), ((),), (((0, 1, 2),),), (((0, 1, 2), ONE, ONE),),
                       ([(0, 1, 2), ONE],), ((0, 1, 2), ONE), ((ONE, (0, 1, 2)),)):
            self.refused(TWO_TENTS, head + (groups,))

    def test_groups_need_three_odd_faces(self):
        for some in ((0,), (0, 1), (0, 1, 2), (0, 0, 1)):
            self.refused(TRIANGLE, TRIANGLE_PAPER[:3] + (((-9, 1), (-9, 1)), ((some, ONE),)))

    def test_no_odd_faces(self):
        web = ring_web(4, [0, 1, 2, 3])
        turns = random_turns(web, 0)
        self.read(web, ("faces", turns, (), (), ()), (4, 1))
        self.refused(web, ("faces", turns, ((ZERO, ONE),), (), ()))
        self.refused(web, ("faces", turns, (), (ZERO,), ()))
        self.refused(web, ("faces", turns, (), (), (((0, 1, 2), ONE),)))
        for many in (1, 2, 4):
            self.read(made_web(many, []), ("faces", ((),) * many, (), (), ()), ZERO)
            self.refused(made_web(many, []), ("faces", ((),) * (many + 1), (), (), ()))
            self.refused(made_web(many, []), ("faces", ((),) * many, ((),), (), ()))

    def test_two_parts_of_the_web(self):
        web = made_web(6, [(a, b, ONE) for a, b in ((0, 1), (0, 2), (1, 2), (3, 4), (3, 5), (4, 5))])
        turns = ((1, 2), (0, 2), (0, 1), (4, 5), (3, 5), (3, 4))
        for beyond in (1, 7, 100):
            self.read(web, ("faces", turns, made_labels(web, turns, beyond), (HALF,) * 4, ()), (4, 1))
        # Prices are asked of two odd faces of two parts, too.
        self.refused(web, ("faces", turns, made_labels(web, turns, Fraction(999, 1000)), (HALF,) * 4, ()))
        self.refused(web, ("faces", turns, made_labels(web, turns, 0), (HALF,) * 4, ()))
        labels = made_labels(web, turns, 1)
        for at in range(4):
            for other in (None, (), 0, (2, 2)):
                for row in range(4):
                    self.refused(web, ("faces", turns, with_other(labels, (row, at), other), (HALF,) * 4, ()))
        # Labels of faces to which no ties lead keep what ties lie between those.
        for row, at in ((0, 2), (0, 3), (1, 2), (2, 0), (3, 1)):
            self.refused(web, ("faces", turns, with_other(labels, (row, at), (2001, 1000)), (HALF,) * 4, ()))
        self.read(web, ("faces", turns, with_other(labels, (0, 2), (2, 1)), (HALF,) * 4, ()), (4, 1))
        far = made_labels(web, turns, 3)
        group = ((0, 1, 2), ONE)
        self.read(web, ("faces", turns, far, ((-1, 2), (3, 2), (-1, 2), (1, 2)), (group,)))
        self.refused(web, ("faces", turns, far, (HALF,) * 4, ((((0, 1, 2), (1, 1000))),)))

    def test_whole_webs(self):
        web = whole_web(4)
        flat = ((1, 2, 3), (0, 3, 2), (0, 1, 3), (0, 2, 1))
        self.read(web, ("faces", flat, made_labels(web, flat, 0), (HALF,) * 4, ()), (4, 1))
        for seed in range(10):
            turns = random_turns(web, seed)
            odd = odd_faces(web, turns)
            paper = ("faces", turns, made_labels(web, turns, 0), (HALF,) * len(odd), ())
            self.read(web, paper, as_pair(6 - Fraction(len(odd), 2)))

    def test_great_webs(self):
        web, turns = plane_web(7, lambda number, kind: (ONE, (3, 2), (2, 1))[kind])
        odd = odd_faces(web, turns)
        self.assertEqual(len(odd), 72)
        paper = ("faces", turns, made_labels(web, turns, 0), (HALF,) * 72, (((0, 1, 2), (1, 10 ** 9)),))
        self.assertIsNone(face_bound(web, paper))
        self.assertEqual(face_bound(web, paper[:4] + ((),)), as_pair(top_number(web) - 36))


class TestNoPapers(FacePapers):
    def test_other_turns(self):
        for turns in (((1, 2), (0, 2), (0,)), ((1, 2), (0, 2)), [(1, 2), (0, 2), (0, 1)], ((1, 2), (0, 2), [0, 1]), (), None,
                      ((), (), ()), ((1, 2), (0, True), (0, 1)), ((2, 1), (0, 2), (0, 1), ())):
            self.refused(TRIANGLE, ("faces", turns) + TRIANGLE_PAPER[2:])
        self.read(TRIANGLE, ("faces", ((2, 1), (2, 0), (1, 0))) + TRIANGLE_PAPER[2:], (7, 2))

    def test_wrong_lengths_and_kinds_at_any_place(self):
        group = ("faces", TWO_TENTS_TURNS, made_labels(TWO_TENTS, TWO_TENTS_TURNS, 0), (HALF,) * 6, (((0, 2, 4), (1, 100)),))
        low = group[:3] + (((-1, 1),) * 6,) + group[4:]
        self.read(TWO_TENTS, low)
        for web, paper in ((TRIANGLE, TRIANGLE_PAPER), (TWO_TENTS, low)):
            for thing in wrong_kinds(paper):
                self.refused(web, thing)
        for thing in other_lengths(TRIANGLE_PAPER):
            self.refused(TRIANGLE, thing)
        for thing in other_lengths(low):
            answer = face_bound(TWO_TENTS, thing)
            self.assertTrue(answer is None or thing[:4] == low[:4] and thing[4] != low[4], repr(thing))

    def test_anything_at_any_place(self):
        for thing in strange_places(TRIANGLE_PAPER):
            answer = face_bound(TRIANGLE, thing)
            self.assertTrue(answer is None or as_number(answer) >= Fraction(7, 2), repr(thing))
            self.assertEqual(bound_of(TRIANGLE, [], thing), answer)

    def test_papers_that_are_none(self):
        inner = TRIANGLE_PAPER[1:]
        for paper in STRANGE + (
            list(TRIANGLE_PAPER), inner, ("face",) + inner, ("Faces",) + inner, (b"faces",) + inner, (None,) + inner,
            ("cases",) + inner, ("rings",) + inner, TRIANGLE_PAPER[:4], TRIANGLE_PAPER + ((),), ("faces",), ("faces", ()),
            ("faces", (), (), (), ()), "faces", {}, (["faces"],) + inner, TRIANGLE_PAPER[::-1],
        ):
            self.refused(TRIANGLE, paper)
        for paper in (("rings", ()), ("cases", 0, 1, ("rings", ()), ("rings", ()))):
            self.assertIsNone(face_bound(TRIANGLE, paper))

    def test_for_another_web(self):
        self.refused(made_web(3, [tie for tie in TRIANGLE[1] if tie[0] == 0]), TRIANGLE_PAPER)
        self.refused(made_web(4, TRIANGLE[1]), TRIANGLE_PAPER)
        self.refused(made_web(3, [(a, b, (-1, 1) if a else ONE) for a, b, weight in TRIANGLE[1]]), TRIANGLE_PAPER)
        self.refused(made_web(3, [(a, b, (1, 3) if a else ONE) for a, b, weight in TRIANGLE[1]]), TRIANGLE_PAPER)

    def test_for_no_wishes_only(self):
        self.assertEqual(bound_of(TRIANGLE, (), TRIANGLE_PAPER), (7, 2))
        for wishes in ([(0, 1, 1)], ((0, 1, 1),), [(0, 1, 0)], [(0, 1, 0), (0, 1, 1)]):
            self.assertIsNone(bound_of(TRIANGLE, wishes, TRIANGLE_PAPER))
        pair = made_web(2, [])
        self.assertIsNone(bound_of(pair, [(0, 1, 0)], ("faces", ((), ()), (), (), ())))


class TestSmallWebs(FacePapers):
    def test_no_side_weighs_more(self):
        tight = 0
        for seed in range(25):
            for web in sample_webs() + [whole_web(5), random_web(6, 15, seed), TWO_TENTS]:
                turns = random_turns(web, seed)
                paper = random_paper(web, turns, seed)
                self.read(web, paper)
                tight += face_bound(web, paper) == as_pair(most_weight(web, []))
        self.assertGreater(tight, 50)

    def test_a_little_more_of_any_price(self):
        for seed in range(15):
            for web in sample_webs() + [TWO_TENTS]:
                paper = random_paper(web, random_turns(web, seed), seed)
                # The price that was set last is as great as the labels allow.
                if len(paper[3]) > 1:
                    more = as_pair(as_number(paper[3][-1]) + Fraction(1, 10 ** 6))
                    self.refused(web, with_other(paper, (3, len(paper[3]) - 1), more))

    def test_labels_moved(self):
        for seed in range(10):
            for web in [random_web(6, 12, seed), TWO_TENTS]:
                paper = random_paper(web, random_turns(web, seed), seed)
                pairs = beside(web, paper[1])
                chance = Random(seed)
                for row in range(len(paper[2])):
                    face = chance.randrange(len(paper[2][row]))
                    label = as_pair(as_number(paper[2][row][face]) + chance.choice((Fraction(1, 9), Fraction(-1, 9), 50, -50)))
                    thing = with_other(paper, (2, row, face), label)
                    labels = thing[2][row]
                    fits = all(abs(as_number(labels[one]) - as_number(labels[other])) <= abs(as_number(tie[2]))
                               for tie, (one, other) in zip(web[1], pairs))
                    if not fits or labels[odd_faces(web, paper[1])[row]] != ZERO:
                        self.refused(web, thing)
                    elif face_bound(web, thing) is not None:
                        self.read(web, thing)


if __name__ == "__main__":
    unittest.main()
