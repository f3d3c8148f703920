"""Tests of heaviest sides of flat webs, with their face papers [26]."""

import unittest
from fractions import Fraction
from random import Random

from flatsamples import flat_with, grown_flat, net, triangles, wheel
from heavycut.cases import heaviest
from heavycut.errors import TooGreat
from heavycut.facepapers import face_bound
from heavycut.flat import flat_web
from heavycut.flatcuts import flat_heaviest
from heavycut.fractions import is_fraction
from heavycut.reader import bound_of, meets
from heavycut.sides import is_side
from heavycut.turns import faces_of, odd_faces
from heavycut.webs import made_web
from samples import as_number, as_pair, check_repeated, most_weight, number_of, plane_web, top_number

ONE = (1, 1)

# Each tells a weight by chance: all gainful, of either sign, with many of 0, great ones, none gainful.
WEIGHTS = (
    lambda chance: ONE,
    lambda chance: (chance.choice((-1, 1)), 1),
    lambda chance: (chance.randrange(-2, 3), 1),
    lambda chance: (chance.choice((0, 0, 1)), 1),
    lambda chance: as_pair(Fraction(chance.randrange(-9, 20), chance.randrange(1, 8))),
    lambda chance: as_pair(Fraction(chance.randrange(-10 ** 9, 10 ** 9 + 1), chance.randrange(1, 1001))),
    lambda chance: (chance.choice((-1000000000, 1000000000, 999999999)), 1),
    lambda chance: (-chance.randrange(5), 1),
    lambda chance: (0, 1),
)


def tents(many):
    """Answer so many pairs of tents: points on either side of a heavy triangle, all six faces odd.

    The faces of each tent are close to each other, and the two tents are far from each other.
    """
    rows, weights = [], []
    for first in range(0, 5 * many, 5):
        for row in ((1, 3, 2, 4), (2, 3, 0, 4), (0, 3, 1, 4), (0, 1, 2), (2, 1, 0)):
            rows.append([first + point for point in row])
        weights += [10, 10, 1, 1, 10, 1, 1, 1, 1]
    return flat_with(rows, lambda number: (weights[number], 1))


class FlatCuts(unittest.TestCase):
    def check(self, flat):
        """Check that side and paper meet, and answer both."""
        web, turns = flat
        answer = check_repeated(self, flat_heaviest, flat)
        self.assertIsInstance(answer, tuple)
        side, paper = answer
        self.assertTrue(is_side(web, side))
        self.assertEqual(len(paper), 5)
        self.assertEqual(paper[0], "faces")
        self.assertEqual(paper[1], turns)
        self.check_labels(flat, paper)
        self.assertEqual(as_number(face_bound(web, paper)), number_of(web, side))
        self.assertEqual(bound_of(web, [], paper), face_bound(web, paper))
        self.assertIs(meets(web, [], side, paper), True)
        return side, paper

    def check_labels(self, flat, paper):
        """Check that each odd face has a row with a label for each face, and a price."""
        many = len(faces_of(*flat))
        odd = odd_faces(*flat)
        self.assertEqual([len(row) for row in paper[2]], [many] * len(odd))
        self.assertTrue(all(is_fraction(label) for row in paper[2] for label in row))
        self.assertEqual(len(paper[3]), len(odd))

    def check_all_sides(self, flat):
        """Check against all sides of a small web, and answer the number of odd faces."""
        side, paper = self.check(flat)
        self.assertEqual(number_of(flat[0], side), most_weight(flat[0], []))
        other = heaviest(flat[0], [])[1]
        self.assertEqual(number_of(flat[0], other), number_of(flat[0], side))
        return len(paper[3])

    def check_as_heaviest(self, flat):
        """Check against the other way to find a heaviest side, of at most 16 points."""
        side, paper = self.check(flat)
        self.assertEqual(number_of(flat[0], side), number_of(flat[0], heaviest(flat[0], [])[1]))

    def too_great(self, flat):
        self.assertGreater(len(odd_faces(*flat)), 32)
        with self.assertRaises(TooGreat):
            flat_heaviest(flat)


class TestSmall(FlatCuts):
    def test_grown_webs(self):
        odd = set()
        for told in WEIGHTS:
            for seed in range(25):
                odd.add(self.check_all_sides(grown_flat(seed, 1, 4 + seed, 3 + seed % 6, 0, told)))
        self.assertTrue({0, 2, 4, 6} <= odd)

    def test_several_parts_and_points_without_ties(self):
        for told in WEIGHTS:
            for seed in range(12):
                self.check_all_sides(grown_flat(seed, 2 + seed % 2, 6 + seed, 3 + seed % 2, seed % 3 // 2, told))

    def test_points_without_ties_alone(self):
        for many in (1, 2, 5):
            web = made_web(many, [])
            flat = flat_web(web, ((),) * many)
            self.assertEqual(self.check_all_sides(flat), 0)
            self.assertEqual(flat_heaviest(flat)[1], ("faces", ((),) * many, (), (), ()))

    def test_one_tie(self):
        for weight in (ONE, (0, 1), (-5, 3)):
            self.check_all_sides(flat_web(made_web(2, [(0, 1, weight)]), ((1,), (0,))))
            self.check_all_sides(flat_web(made_web(4, [(1, 3, weight)]), ((), (3,), (), (1,))))

    def test_no_odd_face_at_all(self):
        for flat in (net(3, 3, lambda number: (number + 1, 7 if (number + 1) % 7 else 1)), net(2, 4, lambda number: (-1, 1)),
                     triangles(2, lambda number: (-number, 1))):
            self.assertEqual(self.check_all_sides(flat), 0)
            side, paper = flat_heaviest(flat)
            self.assertEqual(paper[2:], ((), (), ()))
            self.assertEqual(number_of(flat[0], side), top_number(flat[0]))

    def test_triangles_and_wheels(self):
        for many in (1, 2, 3):
            self.assertEqual(self.check_all_sides(triangles(many)), 2 * many)
        self.check_all_sides(triangles(3, lambda number: (number - 2, 1)))
        for spokes in range(3, 10):
            self.check_all_sides(wheel(spokes))
            self.check_all_sides(wheel(spokes, lambda number: (number % 4 - 1, 1)))

    def test_groups_are_wanted(self):
        flat = tents(1)
        side, paper = self.check(flat)
        self.check_all_sides(flat)
        self.assertTrue(paper[4])

    def test_16_points(self):
        for seed in range(10):
            for told in WEIGHTS:
                self.check_as_heaviest(grown_flat(seed, 1 + seed % 2, 15 + 5 * seed, 15 - seed % 2 * 8, seed % 3 // 2, told))
        for told in (lambda number: ONE, lambda number: (number % 5 - 2, 1), lambda number: (number * 7 % 11 - 5, 1)):
            self.check_as_heaviest(net(4, 4, told))
            self.check_as_heaviest(wheel(15, told))
            self.check_as_heaviest(triangles(5, told))


class TestParts(FlatCuts):
    def test_labels_where_no_ties_lead(self):
        flat = triangles(2)
        side, paper = self.check(flat)
        self.assertEqual([len(row) for row in paper[2]], [4, 4, 4, 4])
        self.assertEqual(number_of(flat[0], side), 4)
        # One triangle with odd faces, and one part without: its faces have labels, too.
        flat = flat_with([[1, 2], [0, 2], [0, 1], [4], [3], []], lambda number: ONE)
        side, paper = self.check(flat)
        self.assertEqual([len(row) for row in paper[2]], [3, 3])
        self.check_all_sides(flat)

    def test_labels_beyond_groups(self):
        # Here the shares of groups are more than all prices, and labels have to be above both.
        for many in (2, 5):
            flat = tents(many)
            side, paper = self.check(flat)
            self.assertGreaterEqual(len(paper[4]), many)
        self.too_great(tents(6))
        self.check_all_sides(tents(2))

    def test_unlike_parts(self):
        # One part's odd faces are far from each other, and those of the other are close.
        for low, high in ((ONE, (1000000000, 1)), ((1, 1000), (1000000000, 1)), ((1, 997), (1, 991))):
            flat = triangles(2, lambda number: low if number < 3 else high)
            self.check_all_sides(flat)
        for seed in range(20):
            chance = Random(seed)
            self.check_all_sides(triangles(3, lambda number: (chance.choice((1, 5, 10 ** 9)), 1)))


class TestGreat(FlatCuts):
    def test_triangles(self):
        for many in (15, 16):
            flat = triangles(many)
            side, paper = self.check(flat)
            self.assertEqual(len(paper[3]), 2 * many)
            self.assertEqual(number_of(flat[0], side), 2 * many)
        for many in (17, 20):
            self.too_great(triangles(many))
        # More of them have no odd faces.
        flat = triangles(20, lambda number: ONE if number < 48 else (-3, 7))
        side, paper = self.check(flat)
        self.assertEqual(number_of(flat[0], side), 32)

    def test_wheels(self):
        for spokes, odd in ((30, 30), (31, 32), (32, 32)):
            flat = wheel(spokes)
            side, paper = self.check(flat)
            self.assertEqual(len(paper[3]), odd)
            self.assertEqual(number_of(flat[0], side), 3 * spokes // 2)
        for spokes in (33, 34, 59):
            self.too_great(wheel(spokes))
        for seed in range(5):
            chance = Random(seed)
            self.check(wheel(32, lambda number: (chance.choice((-3, -1, 1, 2, 5)), 1)))

    def test_nets(self):
        for seed in range(6):
            chance = Random(seed)
            for told in WEIGHTS[1:6]:
                flat = net(6, 10, lambda number: told(chance))
                if len(odd_faces(*flat)) <= 32:
                    self.check(flat)
                else:
                    self.too_great(flat)

    def test_slanting_nets(self):
        flat = flat_web(*plane_web(5, lambda number, kind: ONE))
        side, paper = self.check(flat)
        self.assertEqual(len(paper[3]), 32)
        self.too_great(flat_web(*plane_web(6, lambda number, kind: ONE)))
        for seed in range(6):
            chance = Random(seed)
            flat = flat_web(*plane_web(7, lambda number, kind: as_pair(
                Fraction(chance.randrange(-1, 10 ** 6), chance.randrange(1, 1001)) * (-1 if kind == 2 and number % 5 else 1))))
            if len(odd_faces(*flat)) <= 32:
                self.check(flat)
            else:
                self.too_great(flat)

    def test_grown_webs_of_up_to_60_points(self):
        count = 0
        for seed in range(40):
            parts = 1 + seed % 3
            flat = grown_flat(seed, parts, 30 + 90 * (seed % 4), 57 // parts, seed % 4, WEIGHTS[seed % len(WEIGHTS)])
            if len(odd_faces(*flat)) <= 32:
                self.check(flat)
                count += 1
            else:
                self.too_great(flat)
        self.assertGreater(count, 20)
        self.assertLess(count, 40)


class TestArguments(FlatCuts):
    def test_handed_on(self):
        # What flat_web answered is handed on as it came.
        flat = flat_web(*triangles(2))
        ahead = repr(flat)
        first = flat_heaviest(flat)
        self.assertEqual(repr(flat), ahead)
        self.assertEqual(repr(flat_heaviest(flat)), repr(first))


if __name__ == "__main__":
    unittest.main()
