"""Tests of ring papers [11], [12]."""

import unittest
from fractions import Fraction

from heavycut.errors import NoWishes
from heavycut.ringpapers import ring_bound
from heavycut.webs import made_web
from samples import (
    DEEP_LIST, DEEP_TUPLE, STRANGE, as_number, as_pair, check_repeated, kept_wishes, most_weight, odd_rounds,
    other_lengths, packed_rows, random_wishes, random_web, ring_web, sample_webs, strange_places, top_number,
    whole_web, wrong_kinds,
)

TRIANGLE = made_web(3, [(0, 1, (3, 2)), (0, 2, (1, 1)), (1, 2, (2, 1))])
ONE = (1, 1)
NO_ROWS = ("rings", ())


def of(*rows):
    """Answer the ring paper of these rows."""
    return ("rings", rows)


class RingPapers(unittest.TestCase):
    def read(self, web, wishes, paper, bound):
        answer = check_repeated(self, ring_bound, web, wishes, paper)
        self.assertEqual(repr(answer), repr(bound), repr(paper))
        self.assertGreaterEqual(as_number(answer), most_weight(web, wishes))

    def refused(self, web, wishes, paper):
        self.assertIsNone(ring_bound(web, wishes, paper), repr(paper))


class TestRead(RingPapers):
    def test_a_triangle(self):
        self.read(TRIANGLE, [], NO_ROWS, (9, 2))
        self.read(TRIANGLE, (), of(((0, 1, 2), (1, 1))), (7, 2))
        self.read(TRIANGLE, [], of(((0, 1, 2), (1, 3))), (25, 6))
        self.read(TRIANGLE, [], of(((0, 1, 2), (1, 3)), ((0, 1, 2), (2, 3))), (7, 2))
        self.read(TRIANGLE, [], of(*[((0, 1, 2), (1, 7))] * 7), (7, 2))

    def test_shares_a_little_more_than_a_size(self):
        self.refused(TRIANGLE, [], of(((0, 1, 2), (1001, 1000))))
        self.refused(TRIANGLE, [], of(((0, 1, 2), (10 ** 900 + 1, 10 ** 900))))
        self.read(TRIANGLE, [], of(((0, 1, 2), (10 ** 900 - 1, 10 ** 900))), as_pair(Fraction(7, 2) + Fraction(1, 10 ** 900)))
        self.refused(TRIANGLE, [], of(((0, 1, 2), (1, 3)), ((0, 1, 2), (2, 3)), ((0, 1, 2), (1, 10 ** 900))))
        self.refused(TRIANGLE, [], of(*[((0, 1, 2), (1, 7))] * 8))

    def test_each_tie_has_its_own_size(self):
        # Two triangles share the tie (1, 2).
        ties = [(0, 1, (5, 1)), (0, 2, (5, 1)), (1, 2, (1, 1)), (1, 3, (5, 1)), (2, 3, (5, 1))]
        web = made_web(4, ties)
        self.read(web, [], of(((0, 1, 2), (1, 2)), ((2, 3, 4), (1, 2))), (20, 1))
        self.refused(web, [], of(((0, 1, 2), (1, 2)), ((2, 3, 4), (501, 1000))))
        self.refused(web, [], of(((0, 1, 2), (1, 1)), ((2, 3, 4), (1, 1000))))
        wide = made_web(4, [tie if tie[:2] != (1, 2) else (1, 2, (7, 3)) for tie in ties])
        self.read(wide, [], of(((0, 1, 2), (4, 3)), ((2, 3, 4), (1, 1))), (20, 1))
        self.refused(wide, [], of(((0, 1, 2), (4, 3)), ((2, 3, 4), (1001, 1000))))

    def test_signs_make_rings_odd(self):
        for signs in [(a, b, c) for a in (-1, 0, 1) for b in (-1, 0, 1) for c in (-1, 0, 1)]:
            web = made_web(3, [(a, b, (sign * 2, 1)) for (a, b), sign in zip(((0, 1), (0, 2), (1, 2)), signs)])
            paper = of(((0, 1, 2), (1, 1)))
            if 0 not in signs and signs.count(1) % 2 == 1:
                self.read(web, [], paper, (2 * signs.count(1) - 1, 1))
            else:
                self.refused(web, [], paper)

    def test_negative_ties_alone(self):
        web = ring_web(4, [0, 1, 2, 3])
        self.refused(web, [], of(((0, 1, 2, 3), (1, 1))))
        web = made_web(4, [(0, 1, (-1, 2)), (0, 3, (1, 1)), (1, 2, (1, 1)), (2, 3, (1, 1))])
        self.read(web, [], of(((0, 1, 2, 3), (1, 2))), (5, 2))
        self.refused(web, [], of(((0, 1, 2, 3), (2, 3))))

    def test_wishes(self):
        web = made_web(4, [(0, 1, (3, 1)), (0, 3, (-1, 2)), (1, 2, (2, 1)), (2, 3, (1, 1))])
        # A tie within a group is a ring by itself where it is lost.
        self.read(web, [(1, 0, 0)], of(((0,), (3, 1))), (3, 1))
        self.refused(web, [(1, 0, 1)], of(((0,), (3, 1))))
        self.read(web, [(0, 3, 1)], of(((1,), (1, 2))), (11, 2))
        self.refused(web, [(0, 3, 0)], of(((1,), (1, 2))))
        # Two ties between two groups that can't both be kept.
        self.read(web, [(0, 2, 1)], of(((0, 2), (2, 1))), (4, 1))
        self.refused(web, [(0, 2, 0)], of(((0, 2), (2, 1))))
        self.refused(web, [], of(((0, 2), (2, 1))))
        # More rows at once, and wishes as lists.
        self.refused(web, [[2, 0, 1], [0, 2, 1]], of(((0, 2), (2, 1)), ((1, 3), (1, 2))))
        self.read(web, [[2, 0, 0], [0, 2, 0]], of(((1, 3), (1, 2))), (11, 2))

    def test_wishes_that_cannot_be_kept(self):
        for wishes in ([(0, 1, 0), (0, 1, 1)], [(0, 1, 1), (1, 2, 1), (0, 2, 1)]):
            for paper in (NO_ROWS, of(((0, 1, 2), ONE)), None, (), 5):
                self.refused(TRIANGLE, wishes, paper)
                self.refused(TRIANGLE, tuple(wishes), paper)

    def test_no_wishes_at_all(self):
        for wishes in STRANGE + ([(0, 0, 1)], [(0, 3, 0)], [(0, 1, True)], [(0, 1)], [(0, 1, 0)] * 121):
            for paper in (NO_ROWS, of(((0, 1, 2), ONE)), None, 7, [DEEP_TUPLE]):
                with self.assertRaises(NoWishes):
                    ring_bound(TRIANGLE, wishes, paper)

    def test_webs_without_ties(self):
        for many in (1, 2, 5):
            self.read(made_web(many, []), [], NO_ROWS, (0, 1))
            self.refused(made_web(many, []), [], of(((0,), ONE)))
            self.refused(made_web(many, []), [], of(((), ONE)))

    def test_120_wishes_and_60_points(self):
        web = ring_web(60, list(range(60)))
        wishes = [(point, point + 1, point % 2) for point in range(59)] * 2
        lost = [number for number, (a, b, weight) in enumerate(web[1]) if b == a + 1 and a % 2 == 0]
        paper = of(*[((number,), ONE) for number in lost])
        self.assertEqual(ring_bound(web, wishes, paper), (60 - len(lost), 1))
        self.assertIsNone(ring_bound(web, [], paper))
        self.assertIsNone(ring_bound(web, wishes, of(((0,), ONE), ((0,), ONE))))

    def test_great_webs(self):
        web = made_web(60, [(a, b, (1000000000, 999)) for a in range(60) for b in range(a + 1, 60)
                            if b - a in (1, 2)] + [(0, 59, (-1000000000, 1))])
        number = {tie[:2]: at for at, tie in enumerate(web[1])}
        rings = [tuple(sorted([number[(a, a + 1)], number[(a + 1, a + 2)], number[(a, a + 2)]])) for a in range(0, 58, 2)]
        paper = of(*[(ring, (1000000000, 999)) for ring in rings])
        self.assertEqual(ring_bound(web, [], paper), as_pair(top_number(web) - 29 * Fraction(1000000000, 999)))
        self.assertIsNone(ring_bound(web, [], of(*paper[1], (rings[0], (1, 1000)))))


class TestNoPapers(RingPapers):
    def test_rings_that_are_none(self):
        web = made_web(4, [(0, 1, ONE), (0, 2, ONE), (1, 2, ONE), (2, 3, ONE)])
        self.read(web, [], of(((0, 1, 2), ONE)), (3, 1))
        for ring in ((), (0,), (0, 1), (0, 1, 3), (0, 1, 2, 3), (1, 0, 2), (2, 1, 0), (0, 1, 1, 2), (0, 0, 1, 2), (0, 1, 2, 2),
                     (0, 1, 4), (0, 1, 2, 4), (-1, 0, 1), (-4, 1, 2), (0, 1, -2), (False, 1, 2), (0, True, 2), (0, 1, 2.0),
                     (0, 1, "2"), (0, 1, None), (0, 1, (2,)), (0, 1, 10 ** 999), (0, 0), (0, 1, 2, 0, 1, 2),
                     [0, 1, 2], {0, 1, 2}, {0: 0, 1: 1, 2: 2}, "012", range(3), b"\x00\x01\x02", None, 0, DEEP_TUPLE):
            self.refused(web, [], of((ring, ONE)))
            self.refused(web, [], of(((0, 1, 2), (1, 3)), (ring, (1, 3))))

    def test_shares_that_are_none(self):
        for share in ((0, 1), (-1, 1), (-1, 2), (1, 0), (1, -1), (2, 2), (2, 4), (0, 2), (True, 1), (1, True), (1.0, 1), (1, 1.0),
                      [1, 1], (1,), (1, 1, 1), (), 1, 0.5, "1", "1/2", None, True, Fraction(1, 2), ("1", "2"), (1, None),
                      ((1, 1), 1), DEEP_TUPLE, {}):
            self.refused(TRIANGLE, [], of(((0, 1, 2), share)))
            self.refused(TRIANGLE, [], of(((0, 1, 2), (1, 3)), ((0, 1, 2), share)))

    def test_rows_that_are_none(self):
        row = ((0, 1, 2), (1, 3))
        for rows in ([row], {row: 1}, {row}, row, (list(row),), (row, None), (row, ()), (row, (row,)), (row + (1,),), (row[:1],),
                     ((row[1], row[0]),), None, 0, "", "rows", True, 1.5, [], {}, DEEP_TUPLE, DEEP_LIST, ((),), (None,)):
            self.refused(TRIANGLE, [], ("rings", rows))

    def test_papers_that_are_none(self):
        rows = (((0, 1, 2), (1, 3)),)
        for paper in STRANGE + (
            ["rings", rows], ("rings",), ("rings", rows, ()), ("rings", rows, rows), ("rings", (), ()), (rows, "rings"), (rows,),
            rows, (), [], "rings", ("ring", rows), ("Rings", rows), ("", rows), (b"rings", rows), (None, rows), (1, rows),
            (("rings",), rows), {"rings": rows}, ("faces", rows), ("cases", rows), ("cases", 0, 1, NO_ROWS, NO_ROWS),
            ("rings ", rows), (["rings"], rows), {"rings": rows, "rows": rows}, DEEP_TUPLE, DEEP_LIST,
        ):
            self.refused(TRIANGLE, [], paper)
            self.refused(TRIANGLE, [(0, 1, 1)], paper)

    def test_anything_at_any_place(self):
        web = made_web(3, [(0, 1, ONE), (0, 2, ONE), (1, 2, (3, 1))])
        paper = of(((0, 1, 2), (1, 2)), ((0, 1, 2), (1, 3)))
        self.read(web, [], paper, (25, 6))
        for thing in wrong_kinds(paper):
            self.refused(web, [], thing)
        for thing in strange_places(paper) + other_lengths(paper):
            answer = ring_bound(web, [], thing)
            self.assertTrue(answer is None or as_number(answer) >= 4, repr(thing))

    def test_case_papers_and_face_papers_are_none_of_this_kind(self):
        self.refused(TRIANGLE, [], ("cases", 0, 1, NO_ROWS, NO_ROWS))
        turns = ((1, 2), (0, 2), (0, 1))
        zeros = ((0, 1), (0, 1))
        self.refused(TRIANGLE, [], ("faces", turns, (zeros, zeros), zeros, ()))


class TestSmallWebs(RingPapers):
    def check_all_choices(self, web, wishes):
        """Check for every choice of ties whether it is read as a ring: just if all sides lose an odd number of it."""
        rounds = odd_rounds(web, wishes)
        for choice in range(1 << len(web[1])):
            ring = tuple([tie for tie in range(len(web[1])) if choice >> tie & 1])
            sizes = [abs(as_number(web[1][tie][2])) for tie in ring]
            if ring in rounds and min(sizes) > 0:
                self.read(web, wishes, of((ring, as_pair(min(sizes)))), as_pair(top_number(web) - min(sizes)))
                self.refused(web, wishes, of((ring, as_pair(min(sizes) + Fraction(1, 10 ** 9)))))
            else:
                self.refused(web, wishes, of((ring, (1, 10 ** 9))))
        return len(rounds)

    def test_all_choices(self):
        found = 0
        for seed in range(24):
            many = 2 + seed % 5
            web = random_web(many, 7, seed)
            found += self.check_all_choices(web, [])
            found += self.check_all_choices(web, kept_wishes(many, 1 + seed % 3, seed))
        self.assertGreater(found, 100)

    def test_wishes_kept_or_not(self):
        for seed in range(40):
            many = 2 + seed % 4
            web = random_web(many, 6, seed)
            wishes = random_wishes(many, 1 + seed % 5, seed)
            if most_weight(web, wishes) is None:
                self.refused(web, wishes, NO_ROWS)
            else:
                self.read(web, wishes, NO_ROWS, as_pair(top_number(web)))

    def test_no_side_weighs_more(self):
        for seed in range(40):
            for web in sample_webs():
                if web[0] > 1 and len(web[1]) <= 8:
                    wishes = kept_wishes(web[0], seed % 4, seed)
                    rows = packed_rows(web, odd_rounds(web, wishes), seed)
                    shares = sum([as_number(share) for ring, share in rows], Fraction(0))
                    self.read(web, wishes, ("rings", rows), as_pair(top_number(web) - shares))
                    self.read(web, tuple(wishes), ("rings", rows[::-1]), as_pair(top_number(web) - shares))

    def test_whole_webs(self):
        web = whole_web(4)
        rounds = [ring for ring in odd_rounds(web, []) if len(ring) == 3]
        self.assertEqual(len(rounds), 4)
        self.read(web, [], of(*[(ring, (1, 2)) for ring in rounds]), (4, 1))
        self.refused(web, [], of(*[(ring, (1, 2)) for ring in rounds[:3]], (rounds[3], (501, 1000))))

    def test_same_for_lists_and_changed_afterwards(self):
        wishes = [[0, 1, 0]]
        paper = of(((0,), (3, 2)))
        bound = ring_bound(TRIANGLE, wishes, paper)
        self.assertEqual(bound, (3, 1))
        wishes[0][2] = 1
        self.assertEqual(bound, (3, 1))
        self.assertIsNone(ring_bound(TRIANGLE, wishes, paper))


if __name__ == "__main__":
    unittest.main()
