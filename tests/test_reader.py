"""Tests of case papers [13], of the reader of all kinds [11] and of what meets [16]."""

import unittest

from heavycut.errors import NoWishes
from heavycut.reader import bound_of, meets
from heavycut.ringpapers import ring_bound
from heavycut.webs import made_web
from papersamples import all_parted, random_cases
from samples import (
    DEEP_LIST, DEEP_TUPLE, STRANGE, all_sides, as_number, as_pair, check_repeated, kept_sides, kept_wishes, most_weight,
    number_of, odd_rounds, other_lengths, packed_rows, ring_web, sample_webs, strange_places, whole_web, wrong_kinds,
)

ONE = (1, 1)
NO_ROWS = ("rings", ())
TRIANGLE = ring_web(3, [0, 1, 2])
RING = ("rings", (((0, 1, 2), ONE),))
FACES = ("faces", ((1, 2), (0, 2), (0, 1)), (((0, 1), ONE), (ONE, (0, 1))), ((1, 2), (1, 2)), ())


class Papers(unittest.TestCase):
    def read(self, web, wishes, paper, bound):
        answer = check_repeated(self, bound_of, web, wishes, paper)
        self.assertEqual(repr(answer), repr(bound), repr(paper))
        self.assertGreaterEqual(as_number(answer), most_weight(web, wishes))

    def refused(self, web, wishes, paper):
        # No paper is shown here: one that stands twice within itself may be very long.
        self.assertTrue(bound_of(web, wishes, paper) is None)
        self.assertIs(meets(web, wishes, (0,) * web[0], paper), False)


class TestCases(Papers):
    def test_the_greater_bound(self):
        web = made_web(2, [(0, 1, (5, 1))])
        lost = ("rings", (((0,), (5, 1)),))
        self.read(web, [], ("cases", 0, 1, lost, NO_ROWS), (5, 1))
        self.read(web, [], ("cases", 0, 1, NO_ROWS, NO_ROWS), (5, 1))
        self.refused(web, [], ("cases", 0, 1, lost, lost))
        self.refused(web, [], ("cases", 0, 1, NO_ROWS, lost))
        web = made_web(3, [(0, 1, (-5, 1)), (0, 2, (2, 1)), (1, 2, (1, 3))])
        small, great = ("rings", (((1, 2), (1, 3)),)), ("rings", (((0,), (5, 1)),))
        self.read(web, [], ("cases", 0, 1, NO_ROWS, great), (7, 3))
        self.read(web, [], ("cases", 0, 1, NO_ROWS, NO_ROWS), (7, 3))
        self.refused(web, [], ("cases", 0, 1, small, great))
        self.read(web, [], ("cases", 0, 1, NO_ROWS, ("rings", great[1] + small[1])), (7, 3))
        # Here each of the two cases has the greater bound once.
        web = made_web(3, [(0, 1, (1, 1)), (0, 2, (2, 1)), (1, 2, (2, 1))])
        self.read(web, [], ("cases", 0, 1, ("rings", (((0,), ONE),)), ("rings", (((1, 2), (2, 1)),))), (4, 1))
        web = made_web(3, [(0, 1, (3, 1)), (0, 2, (2, 1)), (1, 2, (2, 1))])
        self.read(web, [], ("cases", 0, 1, ("rings", (((0,), (3, 1)),)), ("rings", (((1, 2), (2, 1)),))), (5, 1))

    def test_several_depths(self):
        web = whole_web(5)
        self.assertEqual(most_weight(web, []), 6)
        self.read(web, [], all_parted(web, []), (6, 1))
        self.read(web, [(0, 3, 0), (3, 4, 1)], all_parted(web, [(0, 3, 0), (3, 4, 1)]), (6, 1))
        self.read(web, ((0, 1, 0), [0, 2, 0]), all_parted(web, [(0, 1, 0), (0, 2, 0)]), (6, 1))
        self.read(web, [], ("cases", 0, 1, ("cases", 2, 3, NO_ROWS, NO_ROWS), ("rings", ())), (10, 1))

    def test_points_that_part_no_groups(self):
        web = whole_web(4)
        self.read(web, [], ("cases", 1, 2, NO_ROWS, NO_ROWS), (6, 1))
        for one, other in ((2, 1), (1, 1), (0, 0), (0, 4), (3, 4), (-1, 0), (0, -1), (-2, -1), (True, 2), (0, True), (False, 1),
                           (0.0, 1), (0, 1.0), ("0", 1), (0, "1"), (None, 1), (0, None), ((0,), 1), (0, [1]), (0, 10 ** 999),
                           (-10 ** 999, 0), (float("nan"), 1), (0, DEEP_TUPLE)):
            self.refused(web, [], ("cases", one, other, NO_ROWS, NO_ROWS))
            self.refused(web, [], ("cases", 0, 3, NO_ROWS, ("cases", one, other, NO_ROWS, NO_ROWS)))
        for wishes in ([(1, 2, 0)], [(2, 1, 1)], [(1, 3, 1), (2, 3, 1)]):
            self.refused(web, wishes, ("cases", 1, 2, NO_ROWS, NO_ROWS))
            self.read(web, wishes, ("cases", 0, 2, NO_ROWS, NO_ROWS), (6, 1))
        for inner in (("cases", 1, 2, NO_ROWS, NO_ROWS), ("cases", 0, 1, NO_ROWS, ("cases", 0, 2, NO_ROWS, NO_ROWS))):
            self.refused(web, [], ("cases", 1, 2, inner, NO_ROWS))
            self.refused(web, [], ("cases", 1, 2, NO_ROWS, inner))

    def test_a_paper_for_the_other_case_only(self):
        web = made_web(3, [(0, 1, ONE), (0, 2, ONE), (1, 2, ONE)])
        together, apart = ("rings", (((0,), ONE),)), ("rings", (((1, 2), ONE),))
        self.read(web, [], ("cases", 0, 1, together, apart), (2, 1))
        for first, second in ((apart, together), (apart, apart), (together, together), (NO_ROWS, together), (apart, NO_ROWS)):
            self.refused(web, [], ("cases", 0, 1, first, second))

    def test_wishes_of_cases_stand_behind_the_others(self):
        web = made_web(4, [(0, 1, (3, 1)), (1, 2, (2, 1)), (2, 3, (1, 1))])
        # Point 3 is apart from 0 by wishes and a case together.
        paper = ("cases", 0, 2, ("rings", ()), ("rings", (((0, 1), (2, 1)),)))
        self.read(web, [(2, 3, 1)], paper, (6, 1))
        paper = ("cases", 0, 3, ("rings", (((0, 1), (2, 1)),)), ("rings", ()))
        self.read(web, [(2, 3, 1)], paper, (6, 1))
        self.refused(web, [(2, 3, 0)], paper)
        self.refused(web, [], paper)

    def test_no_face_papers_within_cases(self):
        self.read(TRIANGLE, [], FACES, (2, 1))
        self.refused(TRIANGLE, [], ("cases", 0, 1, FACES, NO_ROWS))
        self.refused(TRIANGLE, [], ("cases", 0, 1, NO_ROWS, FACES))
        self.refused(TRIANGLE, [], ("cases", 0, 1, FACES, FACES))
        self.refused(TRIANGLE, [], ("cases", 0, 1, NO_ROWS, ("cases", 0, 2, NO_ROWS, FACES)))

    def test_a_paper_missing(self):
        for paper in (("cases", 0, 1, NO_ROWS), ("cases", 0, 1), ("cases",), ("cases", 0, 1, NO_ROWS, NO_ROWS, NO_ROWS),
                      ("cases", 0, 1, NO_ROWS, None), ("cases", 0, 1, None, NO_ROWS), ("cases", 0, 1, (), NO_ROWS),
                      ("cases", 0, 1, NO_ROWS, ()), ["cases", 0, 1, NO_ROWS, NO_ROWS], ("case", 0, 1, NO_ROWS, NO_ROWS),
                      ("cases", 0, 1, NO_ROWS, ["rings", ()]), ("cases", 0, 1, (NO_ROWS, NO_ROWS)),
                      ("cases", (0, 1), NO_ROWS, NO_ROWS), ("rings", 0, 1, NO_ROWS, NO_ROWS), (0, 1, NO_ROWS, NO_ROWS)):
            self.refused(TRIANGLE, [], paper)

    def test_more_than_120_wishes_together(self):
        web = made_web(60, [(0, 59, ONE)])
        wishes = [(0, 1, 1)] * 120
        paper = NO_ROWS
        for point in range(58, 1, -1):
            paper = ("cases", 0, point, paper, NO_ROWS)
        self.assertEqual(bound_of(web, wishes, paper), ONE)
        self.assertEqual(bound_of(web, wishes, ("cases", 1, 59, NO_ROWS, ("rings", (((0,), ONE),)))), ONE)
        with self.assertRaises(NoWishes):
            bound_of(web, wishes + [(0, 1, 1)], paper)

    def test_as_deep_as_60_points_allow(self):
        chain = made_web(60, [(point, point + 1, ONE) for point in range(59)])
        # At the deepest end all points are together, and all ties are lost.
        together = ("rings", tuple([((tie,), ONE) for tie in range(59)]))
        apart = NO_ROWS
        for point in range(58, -1, -1):
            lost = tuple([((tie,), ONE) for tie in range(point)])
            together = ("cases", point, point + 1, together, ("rings", lost))
            apart = ("cases", point, point + 1, ("rings", (((point,), ONE),)), apart)
        self.assertEqual(bound_of(chain, [], together), (59, 1))
        self.assertEqual(bound_of(chain, [], apart), (59, 1))
        self.assertIs(meets(chain, [], (0, 1) * 30, apart), True)
        deep = NO_ROWS
        for point in range(59, 0, -1):
            deep = ("cases", 0, point, deep, NO_ROWS)
        self.assertEqual(bound_of(chain, [], deep), (59, 1))
        self.refused(chain, [], ("cases", 0, 1, NO_ROWS, deep))
        self.refused(chain, [(0, 59, 1)], deep)

    def test_nested_up_to_80_deep(self):
        web = made_web(60, [(0, 59, ONE)])
        for inner in STRANGE[:12] + (NO_ROWS, RING, (), [], None):
            for kind in range(5):
                thing = inner
                for depth in range(76):
                    point = 1 + depth % 59
                    thing = (("cases", 0, point, thing, NO_ROWS), ("cases", 0, point, NO_ROWS, thing), ("rings", thing),
                             ("cases", 0, 1, thing, thing), ["cases", 0, 1, thing, thing])[kind]
                self.refused(web, [], thing)
                self.refused(web, [(0, 1, 1)], thing)

    def test_anything_at_any_place(self):
        paper = ("cases", 0, 1, ("rings", (((0,), ONE),)), ("rings", (((1, 2), (1, 2)),)))
        self.read(TRIANGLE, [], paper, (5, 2))
        for thing in wrong_kinds(paper):
            self.refused(TRIANGLE, [], thing)
        for thing in strange_places(paper) + other_lengths(paper):
            answer = bound_of(TRIANGLE, [], thing)
            self.assertTrue(answer is None or as_number(answer) >= 2, repr(thing))

    def test_small_webs(self):
        for seed in range(12):
            for web in sample_webs():
                if web[0] > 1 and len(web[1]) <= 8:
                    wishes = kept_wishes(web[0], seed % 3, seed)
                    paper, bound = random_cases(web, wishes, seed, 1 + seed % 4)
                    self.read(web, wishes, paper, as_pair(bound))
                    self.read(web, tuple(wishes), paper, as_pair(bound))


class TestAllKinds(Papers):
    def test_the_three_kinds(self):
        self.read(TRIANGLE, [], RING, (2, 1))
        self.read(TRIANGLE, [], FACES, (2, 1))
        self.read(TRIANGLE, [], ("cases", 0, 1, RING[:1] + ((((0,), ONE),),), NO_ROWS), (3, 1))
        self.read(TRIANGLE, [], ("cases", 0, 1, RING, NO_ROWS), (3, 1))

    def test_rings_as_the_other_reader_has_them(self):
        for seed in range(10):
            for web in sample_webs():
                if web[0] > 1 and len(web[1]) <= 8:
                    wishes = kept_wishes(web[0], seed % 4, seed)
                    paper = ("rings", packed_rows(web, odd_rounds(web, wishes), seed))
                    self.assertEqual(bound_of(web, wishes, paper), ring_bound(web, wishes, paper))
                    self.assertIsNotNone(bound_of(web, wishes, paper))

    def test_anything(self):
        for web in (made_web(1, []), TRIANGLE, whole_web(5)):
            for paper in STRANGE + (
                (), [], ("rings",), ("faces",), ("cases",), ("rings", None), ("rings", (), ()), ["rings", ()], ("rings", []),
                "rings", ("papers", ()), ("Rings", ()), (("rings", ()),), {"rings": ()}, ("cases", 0, 1, NO_ROWS),
                (NO_ROWS, NO_ROWS), ("rings", NO_ROWS), ("rings", DEEP_TUPLE), ("faces", DEEP_TUPLE, (), (), ()),
                ("cases", 0, 1, DEEP_TUPLE, DEEP_LIST), (None, ()), (1, ()), (("rings",), ()), ([], ()), ({}, (), (), (), ()),
            ):
                self.refused(web, [], paper)
                for name in ("rings", "faces", "cases"):
                    for length in range(7):
                        if (name, length) not in (("rings", 1), ("faces", 4)):
                            self.refused(web, [], (name,) + (paper,) * length)

    def test_wishes_that_cannot_be_kept(self):
        for paper in (NO_ROWS, RING, FACES, ("cases", 0, 2, NO_ROWS, NO_ROWS), None):
            self.refused(TRIANGLE, [(0, 1, 1), (1, 0, 0)], paper)

    def test_no_wishes_first_of_all(self):
        for wishes in STRANGE + ([(0, 0, 1)], [(0, 3, 0)], [(0, 1, True)], [(0, 1)], [(0, 1, 0)] * 121):
            for paper in (NO_ROWS, RING, FACES, None, DEEP_TUPLE):
                with self.assertRaises(NoWishes):
                    bound_of(TRIANGLE, wishes, paper)
                for side in ((0, 1, 1), None, DEEP_LIST):
                    with self.assertRaises(NoWishes):
                        meets(TRIANGLE, wishes, side, paper)


class TestMeets(unittest.TestCase):
    def check_sides(self, web, wishes, paper):
        bound = bound_of(web, wishes, paper)
        kept = kept_sides(web[0], wishes)
        for side in all_sides(web[0]):
            answer = check_repeated(self, meets, web, wishes, side, paper)
            self.assertIs(answer, side in kept and number_of(web, side) == as_number(bound))

    def test_all_sides(self):
        self.check_sides(TRIANGLE, [], RING)
        self.check_sides(TRIANGLE, [], FACES)
        self.check_sides(TRIANGLE, [], NO_ROWS)
        self.check_sides(TRIANGLE, [(0, 1, 1)], ("rings", (((1, 2), ONE),)))
        self.check_sides(whole_web(5), [], all_parted(whole_web(5), []))
        for seed in range(6):
            for web in sample_webs():
                if web[0] > 1 and len(web[1]) <= 8:
                    wishes = kept_wishes(web[0], seed % 3, seed)
                    self.check_sides(web, wishes, random_cases(web, wishes, seed, 2)[0])
                    self.check_sides(web, wishes, all_parted(web, wishes))

    def test_wishes_that_the_side_does_not_keep(self):
        paper = ("rings", (((1, 2), ONE),))
        self.assertIs(meets(TRIANGLE, [(0, 1, 1)], (0, 1, 0), paper), True)
        self.assertIs(meets(TRIANGLE, [(0, 1, 1)], (0, 1, 1), paper), True)
        self.assertIs(meets(TRIANGLE, [(0, 1, 1)], (0, 0, 1), paper), False)
        self.assertIs(meets(TRIANGLE, [(0, 1, 1), (0, 2, 1)], (0, 1, 0), ("rings", (((2,), ONE),))), False)
        self.assertIs(meets(TRIANGLE, [(0, 1, 1), (0, 2, 1)], (0, 1, 1), ("rings", (((2,), ONE),))), True)

    def test_sides_that_are_none(self):
        self.assertIs(meets(TRIANGLE, [], (0, 1, 1), RING), True)
        for side in STRANGE + ([0, 1, 1], (1, 0, 0), (1, 1, 0), (0, 1), (0, 1, 1, 0), (0, 1, True), (False, 1, 1), (0, 1, 1.0),
                               (0.0, 1, 1), (0, 1, 2), (0, 1, -1), (0, "1", 1), (0, None, 1), (), "011", {0: 0, 1: 1, 2: 1},
                               b"\x00\x01\x01", range(3), (0, (1,), 1), ((0,), 1, 1), (0, 1, 10 ** 999)):
            self.assertIs(meets(TRIANGLE, [], side, RING), False, repr(side))
            self.assertIs(meets(TRIANGLE, [(0, 1, 1)], side, ("rings", (((1, 2), ONE),))), False, repr(side))
            self.assertIs(meets(TRIANGLE, [], side, None), False, repr(side))

    def test_papers_that_are_none(self):
        for paper in STRANGE + ((), [], ["rings", ()], ("rings", (((0, 1, 2), (2, 1)),)), ("cases", 0, 1, NO_ROWS, RING)):
            self.assertIs(meets(TRIANGLE, [], (0, 1, 1), paper), False, repr(paper))

    def test_changed_afterwards(self):
        wishes = [[0, 1, 1]]
        paper = ("rings", (((1, 2), ONE),))
        answer, bound = meets(TRIANGLE, wishes, (0, 1, 0), paper), bound_of(TRIANGLE, wishes, paper)
        wishes[0][2] = 0
        self.assertEqual((answer, bound), (True, (2, 1)))
        self.assertIs(meets(TRIANGLE, wishes, (0, 1, 0), paper), False)

    def test_one_point(self):
        self.assertIs(meets(made_web(1, []), [], (0,), NO_ROWS), True)
        self.assertIs(meets(made_web(1, []), (), (1,), NO_ROWS), False)


if __name__ == "__main__":
    unittest.main()
