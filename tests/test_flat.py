"""Tests of flat webs [23]."""

import unittest
from itertools import permutations, product
from random import Random

from heavycut.errors import NoTurns, NotFlat
from heavycut.flat import flat_web
from heavycut.turns import faces_of
from heavycut.webs import made_web
from samples import (
    DEEP_LIST, DEEP_TUPLE, STRANGE, check_repeated, other_lengths, plane_web, random_turns, random_web, ring_web,
    sample_webs, strange_places, whole_web, wrong_kinds,
)

ONE = (1, 1)
FOUR = ((1, 2, 3), (0, 3, 2), (0, 1, 3), (0, 2, 1))
TWISTED = ((1, 2, 3), (0, 2, 3), (0, 1, 3), (0, 1, 2))


def is_flat_by_parts(web, turns):
    """Tell by a walk over each part whether its points, faces and ties come out as they should."""
    left = list(range(web[0]))
    while left:
        part = [left[0]]
        for point in part:
            part += [other for other in turns[point] if other not in part]
        left = [point for point in left if point not in part]
        ties = [tie for tie in web[1] if tie[0] in part]
        faces = [face for face in faces_of(web, turns) if face[0][0] in part]
        if ties and len(part) + len(faces) != len(ties) + 2:
            return False
    return True


def two_beside(web, turns):
    """Answer a web and turns that have these twice, a point without ties between them."""
    many = web[0] + 1
    ties = list(web[1]) + [(a + many, b + many, weight) for a, b, weight in web[1]]
    rows = turns + ((),) + tuple([tuple([point + many for point in row]) for row in turns])
    return made_web(2 * web[0] + 1, ties), rows


class TestFlatWeb(unittest.TestCase):
    def flat(self, web, turns):
        answer = check_repeated(self, flat_web, web, turns)
        self.assertEqual(repr(answer), repr((web, turns)))

    def not_flat(self, web, turns):
        with self.assertRaises(NotFlat):
            flat_web(web, turns)

    def test_flat_turns(self):
        self.flat(whole_web(4), FOUR)
        self.flat(ring_web(3, [0, 1, 2]), ((1, 2), (0, 2), (0, 1)))
        self.flat(ring_web(5, [0, 1, 2, 3, 4]), random_turns(ring_web(5, [0, 1, 2, 3, 4]), 0))
        self.flat(*plane_web(7, lambda number, kind: (number % 5 - 2, 1)))
        self.flat(*plane_web(2, lambda number, kind: ONE))

    def test_turns_that_are_not_flat(self):
        self.not_flat(whole_web(4), TWISTED)
        web, turns = plane_web(4, lambda number, kind: ONE)
        # Two neighbours of a point exchanged.
        row = turns[5]
        self.not_flat(web, turns[:5] + ((row[1], row[0]) + row[2:],) + turns[6:])

    def test_all_turns_of_four_points(self):
        count = 0
        for turns in product(*[permutations([other for other in range(4) if other != point]) for point in range(4)]):
            if is_flat_by_parts(whole_web(4), turns):
                self.flat(whole_web(4), turns)
                count += 1
            else:
                self.not_flat(whole_web(4), turns)
        self.assertEqual(count, 2 * 81)

    def test_five_points_with_all_ties(self):
        for seed in range(300):
            self.not_flat(whole_web(5), random_turns(whole_web(5), seed))

    def test_three_and_three(self):
        web = made_web(6, [(a, b, ONE) for a in range(3) for b in range(3, 6)])
        for seed in range(100):
            self.not_flat(web, random_turns(web, seed))

    def test_without_ties(self):
        for many in (1, 2, 60):
            self.flat(made_web(many, []), ((),) * many)

    def test_trees_are_always_flat(self):
        chance = Random(4)
        for many in (2, 5, 20, 60):
            web = made_web(many, [(chance.randrange(point), point, (0, 1)) for point in range(1, many)])
            self.flat(web, random_turns(web, many))

    def test_several_parts(self):
        for web, turns in ((whole_web(4), FOUR), (ring_web(3, [0, 1, 2]), ((1, 2), (0, 2), (0, 1))),
                           (made_web(2, [(0, 1, ONE)]), ((1,), (0,)))):
            self.flat(*two_beside(web, turns))
        self.not_flat(*two_beside(whole_web(4), TWISTED))
        # One part is flat, and the other is not.
        web, turns = two_beside(whole_web(4), FOUR)
        shifted = tuple([tuple([point + 5 for point in row]) for row in TWISTED])
        self.not_flat(web, turns[:5] + shifted)
        self.not_flat(web, TWISTED + turns[4:])
        pairs = made_web(60, [(2 * k, 2 * k + 1, ONE) for k in range(25)])
        self.flat(pairs, tuple([(point ^ 1,) for point in range(50)]) + ((),) * 10)

    def test_many_turns(self):
        found = {True: 0, False: 0}
        for seed in range(30):
            for web in sample_webs() + [random_web(7, 8, seed)]:
                turns = random_turns(web, seed)
                flat = is_flat_by_parts(web, turns)
                found[flat] += 1
                if flat:
                    self.flat(web, turns)
                else:
                    self.not_flat(web, turns)
        self.assertGreater(min(found.values()), 20)

    def test_no_turns_ahead_of_not_flat(self):
        things = STRANGE + ((), FOUR[:3], FOUR + ((),), list(FOUR), DEEP_TUPLE, DEEP_LIST, ((1, 2, 3), (0, 2, 3), (0, 1, 3), (0, 1)))
        things += tuple(wrong_kinds(FOUR) + other_lengths(FOUR) + wrong_kinds(TWISTED))
        things += tuple([thing for thing in strange_places(FOUR) if thing != FOUR])
        for thing in things:
            with self.assertRaises(NoTurns, msg=repr(thing)):
                flat_web(whole_web(4), thing)
        for thing in STRANGE + (FOUR, random_turns(whole_web(6), 1)):
            with self.assertRaises(NoTurns, msg=repr(thing)):
                flat_web(whole_web(5), thing)


if __name__ == "__main__":
    unittest.main()
