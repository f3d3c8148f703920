"""Tests of distances and ways from face to face [24]."""

import unittest
from fractions import Fraction

from heavycut.errors import NoTurns
from heavycut.turns import beside, faces_of
from heavycut.ways import distances, way_between
from heavycut.webs import made_web
from samples import (
    DEEP_LIST, DEEP_TUPLE, STRANGE, as_number, as_pair, check_repeated, distances_between, plane_web, random_turns,
    random_web, ring_web, sample_webs, whole_web, wrong_kinds,
)

ONE = (1, 1)
TRIANGLE = made_web(3, [(0, 1, (3, 2)), (0, 2, (-1, 3)), (1, 2, (2, 1))])
ROUND = ((1, 2), (0, 2), (0, 1))


class Ways(unittest.TestCase):
    def check_way(self, web, turns, one, other, least):
        way = check_repeated(self, way_between, web, turns, one, other)
        if least is None:
            self.assertIsNone(way)
            return
        self.assertIsInstance(way, tuple)
        self.assertEqual(len(set(way)), len(way))
        pairs = beside(web, turns)
        here = one
        for tie in way:
            self.assertIsInstance(tie, int)
            self.assertIn(here, pairs[tie])
            here = pairs[tie][1] if pairs[tie][0] == here else pairs[tie][0]
        self.assertEqual(here, other)
        self.assertEqual(sum([abs(as_number(web[1][tie][2])) for tie in way], Fraction(0)), least)
        if one == other:
            self.assertEqual(repr(way), "()")

    def check(self, web, turns, step=1):
        table = distances_between(web, turns)
        for one in range(0, len(table), step):
            told = tuple([None if least is None else as_pair(least) for least in table[one]])
            self.assertEqual(repr(check_repeated(self, distances, web, turns, one)), repr(told))
            for other in range(0, len(table), step):
                self.check_way(web, turns, one, other, table[one][other])


class TestWays(Ways):
    def test_a_triangle(self):
        self.assertEqual(distances(TRIANGLE, ROUND, 0), ((0, 1), (1, 3)))
        self.assertEqual(distances(TRIANGLE, ROUND, 1), ((1, 3), (0, 1)))
        self.assertEqual(way_between(TRIANGLE, ROUND, 0, 1), (1,))
        self.assertEqual(way_between(TRIANGLE, ROUND, 1, 0), (1,))
        self.assertEqual(way_between(TRIANGLE, ROUND, 0, 0), ())
        self.check(TRIANGLE, ROUND)

    def test_in_order_from_the_one_to_the_other(self):
        # A row of triangles: the faces between them are crossed one after another.
        web, turns = plane_web(3, lambda number, kind: ((1, 1), (1, 1), (1, 7))[kind])
        self.check(web, turns)
        faces = faces_of(web, turns)
        long_ways = [way_between(web, turns, one, other) for one in range(len(faces)) for other in range(len(faces))]
        self.assertGreater(max([len(way) for way in long_ways]), 2)
        self.assertTrue([way for way in long_ways if way != tuple(sorted(way))])

    def test_links_of_size_0(self):
        web = made_web(4, [(a, b, (0, 1)) for a, b, weight in whole_web(4)[1]])
        turns = ((1, 2, 3), (0, 3, 2), (0, 1, 3), (0, 2, 1))
        self.check(web, turns)
        self.assertEqual(distances(web, turns, 2), ((0, 1),) * 4)
        web, turns = plane_web(4, lambda number, kind: (number % 3 // 2, 1))
        self.check(web, turns)

    def test_ties_between_a_face_and_itself(self):
        web = made_web(4, [(0, 1, ONE), (1, 2, (5, 1))])
        turns = ((1,), (0, 2), (1,), ())
        self.assertEqual(distances(web, turns, 0), ((0, 1),))
        self.assertEqual(way_between(web, turns, 0, 0), ())
        web = made_web(5, list(TRIANGLE[1]) + [(2, 3, (1, 9)), (3, 4, (0, 1))])
        self.check(web, ((1, 2), (0, 2), (0, 3, 1), (2, 4), (3,)))

    def test_several_parts(self):
        web = made_web(7, [(a, b, ONE) for a, b in ((0, 1), (0, 2), (1, 2), (4, 5), (4, 6), (5, 6))])
        turns = ((1, 2), (0, 2), (0, 1), (), (5, 6), (4, 6), (4, 5))
        self.assertEqual(distances(web, turns, 0), ((0, 1), ONE, None, None))
        self.assertEqual(distances(web, turns, 3), (None, None, ONE, (0, 1)))
        self.assertIsNone(way_between(web, turns, 0, 2))
        self.assertIsNone(way_between(web, turns, 3, 1))
        self.check(web, turns)

    def test_many_turns(self):
        for seed in range(8):
            for web in sample_webs() + [whole_web(5), random_web(8, 12, seed)]:
                self.check(web, random_turns(web, seed))

    def test_great_webs(self):
        self.check(*plane_web(7, lambda number, kind: as_pair(Fraction(number * 7919 % 1000 - 500, 1 + number % 9))), step=9)
        web, turns = plane_web(7, lambda number, kind: (1, 1000 - 5 * number))
        self.check(web, turns, step=25)
        for seed in range(2):
            web = random_web(60, 170, seed)
            self.check(web, random_turns(web, seed))
        web = ring_web(60, list(range(60)))
        self.check(web, random_turns(web, 1))
        ladder = [(2 * k, 2 * k + 1, (1000000000, 1)) for k in range(30)]
        ladder += [(k, k + 2, (999999999, 1000)) for k in range(58)]
        turns = tuple([tuple([point for point in ((k - 2, k ^ 1, k + 2) if k % 2 else (k + 2, k ^ 1, k - 2)) if 0 <= point < 60])
                       for k in range(60)])
        self.assertEqual(len(faces_of(made_web(60, ladder), turns)), 30)
        self.check(made_web(60, ladder), turns, step=7)

    def test_no_turns(self):
        things = STRANGE + ((), ROUND[:2], ROUND + ((),), list(ROUND), DEEP_TUPLE, DEEP_LIST) + tuple(wrong_kinds(ROUND))
        for thing in things:
            with self.assertRaises(NoTurns, msg=repr(thing)):
                distances(TRIANGLE, thing, 0)
            with self.assertRaises(NoTurns, msg=repr(thing)):
                way_between(TRIANGLE, thing, 0, 1)
            with self.assertRaises(NoTurns, msg=repr(thing)):
                way_between(TRIANGLE, thing, 0, 0)


if __name__ == "__main__":
    unittest.main()
