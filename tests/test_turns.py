"""Tests of turns and faces [14]."""

import unittest

from heavycut.errors import NoTurns
from heavycut.turns import are_turns, beside, faces_of, odd_faces
from heavycut.webs import made_web
from samples import (
    DEEP_LIST, DEEP_TUPLE, STRANGE, check_repeated, other_lengths, random_turns, random_web, ring_web, sample_webs,
    strange_places, whole_web, wrong_kinds,
)

TRIANGLE = ring_web(3, [0, 1, 2])
ROUND = ((1, 2), (0, 2), (0, 1))

# Two parts, a point without ties, and a tie that leads nowhere else.
PARTS = made_web(8, [
    (0, 1, (1, 1)), (0, 2, (0, 1)), (1, 2, (-1, 1)), (2, 3, (5, 2)),
    (5, 6, (2, 1)), (6, 7, (3, 1)), (5, 7, (1, 1)),
])
PARTS_TURNS = ((1, 2), (0, 2), (0, 3, 1), (2,), (), (6, 7), (5, 7), (5, 6))
PARTS_FACES = (
    ((0, 1), (1, 2), (2, 0)),
    ((0, 2), (2, 3), (3, 2), (2, 1), (1, 0)),
    ((5, 6), (6, 7), (7, 5)),
    ((5, 7), (7, 6), (6, 5)),
)


def followed(turns, dart):
    """Answer the dart behind a dart, counted here."""
    one, other = dart
    row = list(turns[other]) * 2
    return (other, row[row.index(one) + 1])


def checked_calls(web, turns):
    """Answer the three calls that refuse what is no turns."""
    return (lambda: faces_of(web, turns), lambda: odd_faces(web, turns), lambda: beside(web, turns))


class TestAreTurns(unittest.TestCase):
    def refused(self, web, thing):
        self.assertIs(are_turns(web, thing), False, repr(thing))
        for call in checked_calls(web, thing):
            with self.assertRaises(NoTurns, msg=repr(thing)):
                call()

    def test_any_order(self):
        for seed in range(20):
            for web in sample_webs():
                self.assertIs(are_turns(web, random_turns(web, seed)), True)

    def test_without_ties(self):
        for many in (1, 2, 60):
            web = made_web(many, [])
            self.assertIs(are_turns(web, ((),) * many), True)
            self.refused(web, ((),) * (many - 1))
            self.refused(web, ((),) * (many + 1))
            self.refused(web, ((0,),) + ((),) * (many - 1))
            self.refused(web, [()] * many)
            self.refused(web, ([],) * many)

    def test_wrong_neighbours(self):
        for thing in (((1, 2), (0, 2), (0,)), ((1, 2), (0, 2), (1,)), ((1, 2), (0, 2), ()), ((1, 2), (0, 2), (0, 0)),
                      ((1, 2), (0, 2), (0, 1, 0)), ((1, 2), (0, 2), (0, 1, 1)), ((1, 2), (0, 2), (0, 2)),
                      ((1, 2, 0), (0, 2), (0, 1)), ((1, 2), (0, 2), (0, 1, 2)), ((1, 2), (0, 2), (0, 1, 3)),
                      ((1, 2), (0, 2), (0, 1, -1)), ((1, -1), (0, 2), (0, 1)), ((2, 1), (2, 0), (1, 3)),
                      ((0, 1), (0, 2), (1, 2)), ((1, 2), (0, 2)), ((1, 2), (0, 2), (0, 1), ()),
                      ((1, 2), (0, 2), (0, 1), (0, 1)), ((), (1, 2), (0, 2), (0, 1)), ((1, 2), (0, 2), 1),
                      ((1, 2), (0, 2), None), ((1, 2), (0, 2), "01"), ((1, 2), (0, 2), (0, 10 ** 999))):
            self.refused(TRIANGLE, thing)

    def test_a_neighbour_without_a_tie(self):
        web = made_web(4, [(0, 1, (1, 1)), (1, 2, (0, 1))])
        self.assertIs(are_turns(web, ((1,), (2, 0), (1,), ())), True)
        self.refused(web, ((1,), (2, 0), (1,), (0,)))
        self.refused(web, ((1, 3), (2, 0), (1,), (0,)))
        self.refused(web, ((1, 2), (2, 0), (1, 0), ()))
        self.refused(web, ((), (2, 0), (1,), ()))

    def test_other_kinds_at_any_place(self):
        for web, turns in ((TRIANGLE, ROUND), (PARTS, PARTS_TURNS), (made_web(2, [(0, 1, (0, 1))]), ((1,), (0,)))):
            self.assertIs(are_turns(web, turns), True)
            for thing in wrong_kinds(turns) + other_lengths(turns):
                self.refused(web, thing)
        for thing in strange_places(ROUND):
            if thing != ROUND:
                self.refused(TRIANGLE, thing)
        for thing in STRANGE + (DEEP_TUPLE, DEEP_LIST, {0: (1, 2), 1: (0, 2), 2: (0, 1)}, [(1, 2), (0, 2), (0, 1)]):
            self.refused(TRIANGLE, thing)
            self.refused(whole_web(5), thing)

    def test_turns_of_another_web(self):
        self.refused(whole_web(4), ROUND + ((),))
        self.refused(made_web(3, []), ROUND)
        self.refused(TRIANGLE, ((), (), ()))


class TestFaces(unittest.TestCase):
    def check(self, web, turns):
        faces = check_repeated(self, faces_of, web, turns)
        self.assertIsInstance(faces, tuple)
        darts = sorted([tie[:2] for tie in web[1]] + [tie[:2][::-1] for tie in web[1]])
        self.assertEqual(sorted([dart for face in faces for dart in face]), darts)
        for face in faces:
            self.assertIsInstance(face, tuple)
            self.assertEqual(face[0], min(face))
            for dart, behind in zip(face, face[1:] + face[:1]):
                self.assertIsInstance(dart, tuple)
                self.assertEqual(followed(turns, dart), behind)
        self.assertEqual([face[0] for face in faces], sorted([face[0] for face in faces]))
        gainful = [pair for a, b, weight in web[1] if weight[0] > 0 for pair in ((a, b), (b, a))]
        odd = [number for number, face in enumerate(faces) if len([dart for dart in face if dart in gainful]) % 2 == 1]
        self.assertEqual(repr(check_repeated(self, odd_faces, web, turns)), repr(tuple(odd)))
        pairs = check_repeated(self, beside, web, turns)
        self.assertIsInstance(pairs, tuple)
        self.assertEqual(len(pairs), len(web[1]))
        for (a, b, weight), pair in zip(web[1], pairs):
            self.assertIsInstance(pair, tuple)
            self.assertIn((a, b), faces[pair[0]])
            self.assertIn((b, a), faces[pair[1]])

    def test_triangle(self):
        self.assertEqual(faces_of(TRIANGLE, ROUND), (((0, 1), (1, 2), (2, 0)), ((0, 2), (2, 1), (1, 0))))
        self.assertEqual(beside(TRIANGLE, ROUND), ((0, 1), (1, 0), (0, 1)))
        self.assertEqual(odd_faces(TRIANGLE, ROUND), (0, 1))

    def test_parts_points_without_ties_and_weights_of_all_signs(self):
        self.assertEqual(faces_of(PARTS, PARTS_TURNS), PARTS_FACES)
        self.assertEqual(beside(PARTS, PARTS_TURNS), ((0, 1), (1, 0), (0, 1), (1, 1), (2, 3), (3, 2), (2, 3)))
        # The tie (2, 3) has both its darts in one face, so that they are an even number there.
        self.assertEqual(odd_faces(PARTS, PARTS_TURNS), (0, 1, 2, 3))

    def test_one_tie(self):
        for weight in ((1, 1), (0, 1), (-1, 1)):
            web = made_web(3, [(0, 2, weight)])
            self.assertEqual(faces_of(web, ((2,), (), (0,))), (((0, 2), (2, 0)),))
            self.assertEqual(beside(web, ((2,), (), (0,))), ((0, 0),))
            self.assertEqual(odd_faces(web, ((2,), (), (0,))), ())

    def test_only_gainful_ties_make_faces_odd(self):
        for weights, odd in (((1, 1, 1), (0, 1)), ((1, 1, 0), ()), ((1, 0, 0), (0, 1)), ((0, 0, 0), ()),
                             ((-1, 1, 1), ()), ((-1, -1, 1), (0, 1)), ((-1, -1, -1), ()), ((-1, 0, 1), (0, 1))):
            web = made_web(3, [(a, b, (w, 1)) for (a, b), w in zip(((0, 1), (0, 2), (1, 2)), weights)])
            self.assertEqual(odd_faces(web, ROUND), odd)

    def test_turned_rounds_of_one_point_begin_anywhere(self):
        web = whole_web(4)
        turns = ((1, 2, 3), (0, 3, 2), (0, 1, 3), (0, 2, 1))
        self.assertEqual(len(faces_of(web, turns)), 4)
        moved = ((3, 1, 2), (2, 0, 3), (1, 3, 0), (2, 1, 0))
        self.assertEqual(faces_of(web, moved), faces_of(web, turns))
        self.assertEqual(odd_faces(web, turns), (0, 1, 2, 3))

    def test_turns_that_are_not_flat(self):
        web = whole_web(4)
        turns = ((1, 2, 3), (0, 2, 3), (0, 1, 3), (0, 1, 2))
        self.assertEqual(len(faces_of(web, turns)), 2)
        self.check(web, turns)

    def test_without_ties(self):
        for many in (1, 2, 60):
            web = made_web(many, [])
            for function in (faces_of, odd_faces, beside):
                self.assertEqual(repr(check_repeated(self, function, web, ((),) * many)), "()")

    def test_webs_in_many_turns(self):
        for seed in range(12):
            for web in sample_webs() + [PARTS, whole_web(5), whole_web(6)]:
                self.check(web, random_turns(web, seed))

    def test_great_webs(self):
        for seed in range(3):
            web = random_web(60, 170, seed)
            self.check(web, random_turns(web, seed))
        star = made_web(60, [(0, point, (1, 1)) for point in range(1, 60)])
        self.check(star, random_turns(star, 1))
        self.check(ring_web(60, list(range(60))), random_turns(ring_web(60, list(range(60))), 1))


if __name__ == "__main__":
    unittest.main()
