"""Tests of the greedy side [17] and of exchanges [18]."""

import unittest
from fractions import Fraction
from random import Random

from heavycut.hands import bettered, greedy
from heavycut.sides import made_side
from heavycut.webs import made_web
from samples import all_sides, as_number, check_repeated, number_of, random_web, ring_web, sample_webs, whole_web


def cut_before(web, bits, point, bit):
    """Answer what is cut between a point with this bit and the points before it."""
    return sum([as_number(weight) for one, other, weight in web[1] if other == point and bits[one] != bit], Fraction(0))


def told_greedy(web):
    """Answer the greedy side, by what is cut with either bit."""
    bits = [0]
    for point in range(1, web[0]):
        bits.append(1 if cut_before(web, bits, point, 1) > cut_before(web, bits, point, 0) else 0)
    return tuple(bits)


def told_bettered(web, side):
    """Answer the side at the end of all exchanges and the points, by the weights of whole sides."""
    points = []
    while True:
        turned = [made_side(web, side[:point] + (1 - side[point],) + side[point + 1:]) for point in range(web[0])]
        gains = [number_of(web, other) - number_of(web, side) for other in turned]
        if max(gains) <= 0:
            return (side, tuple(points))
        points.append(gains.index(max(gains)))
        side = turned[points[-1]]


class TestGreedy(unittest.TestCase):
    def check(self, web):
        side = check_repeated(self, greedy, web)
        self.assertEqual(repr(side), repr(told_greedy(web)))
        whole = sum([as_number(weight) for one, other, weight in web[1]], Fraction(0))
        self.assertGreaterEqual(number_of(web, side), whole / 2)

    def test_small_webs(self):
        for web in sample_webs() + [random_web(many, 3 * many, seed) for many in range(2, 9) for seed in range(9)]:
            self.check(web)

    def test_great_webs(self):
        for seed in range(5):
            self.check(random_web(60, 170, seed))

    def test_ties_are_broken_to_0(self):
        self.assertEqual(greedy(made_web(4, [])), (0, 0, 0, 0))
        self.assertEqual(greedy(made_web(3, [(0, 1, (1, 1)), (0, 2, (1, 1)), (1, 2, (1, 1))])), (0, 1, 0))
        self.assertEqual(greedy(made_web(3, [(0, 1, (1, 1)), (0, 2, (-1, 2)), (1, 2, (-1, 2))])), (0, 1, 0))
        self.assertEqual(greedy(made_web(2, [(0, 1, (0, 1))])), (0, 0))

    def test_written_out(self):
        self.assertEqual(greedy(made_web(1, [])), (0,))
        self.assertEqual(greedy(made_web(2, [(0, 1, (1, 1000))])), (0, 1))
        self.assertEqual(greedy(made_web(2, [(0, 1, (-1, 1000))])), (0, 0))
        self.assertEqual(greedy(made_web(3, [(0, 1, (1, 1)), (0, 2, (1, 3)), (1, 2, (1, 2))])), (0, 1, 0))
        self.assertEqual(greedy(made_web(3, [(0, 1, (1, 1)), (0, 2, (1, 2)), (1, 2, (1, 3))])), (0, 1, 1))
        self.assertEqual(greedy(whole_web(6)), (0, 1, 0, 1, 0, 1))
        self.assertEqual(greedy(ring_web(5, [0, 1, 2, 3, 4])), (0, 1, 0, 1, 0))

    def test_only_points_before_count(self):
        # Point 1 has a great tie to a point behind it alone.
        web = made_web(3, [(0, 1, (1, 1)), (1, 2, (9, 1)), (0, 2, (8, 1))])
        self.assertEqual(greedy(web), (0, 1, 0))

    def test_weights_close_to_each_other(self):
        web = made_web(3, [(0, 1, (1, 1)), (0, 2, (1000000000, 999)), (1, 2, (999999999, 998))])
        self.check(web)
        bottoms = [(point, 59, (-1 if point % 2 else 1, 1000 - point)) for point in range(59)]
        self.check(made_web(60, bottoms + [(point, point + 1, (1, 1)) for point in range(58)]))


class TestBettered(unittest.TestCase):
    def check(self, web, side):
        answer = check_repeated(self, bettered, web, side)
        self.assertEqual(repr(answer), repr(told_bettered(web, side)))
        return answer

    def test_all_sides_of_small_webs(self):
        webs = sample_webs() + [random_web(many, 3 * many, seed) for many in range(2, 7) for seed in range(6)]
        for web in webs:
            for side in all_sides(web[0])[::1 if web[0] < 7 else 5]:
                self.check(web, side)

    def test_nothing_to_better(self):
        self.assertEqual(repr(bettered(made_web(1, []), (0,))), "((0,), ())")
        self.assertEqual(repr(bettered(made_web(3, []), (0, 1, 1))), "((0, 1, 1), ())")
        self.assertEqual(bettered(made_web(2, [(0, 1, (0, 1))]), (0, 1)), ((0, 1), ()))
        self.assertEqual(bettered(made_web(2, [(0, 1, (0, 1))]), (0, 0)), ((0, 0), ()))
        self.assertEqual(bettered(whole_web(4), (0, 1, 1, 0)), ((0, 1, 1, 0), ()))

    def test_the_first_of_several(self):
        self.assertEqual(bettered(made_web(2, [(0, 1, (1, 1))]), (0, 0)), ((0, 1), (0,)))
        self.assertEqual(bettered(made_web(2, [(0, 1, (-1, 1))]), (0, 1)), ((0, 0), (0,)))
        self.assertEqual(bettered(whole_web(4), (0, 0, 0, 0)), ((0, 0, 1, 1), (0, 1)))
        web = made_web(4, [(0, 1, (1, 1)), (2, 3, (1, 1))])
        self.assertEqual(bettered(web, (0, 0, 0, 0)), ((0, 1, 0, 1), (0, 2)))

    def test_the_most_first(self):
        web = made_web(4, [(0, 1, (1, 1)), (2, 3, (2, 1))])
        self.assertEqual(bettered(web, (0, 0, 0, 0)), ((0, 1, 0, 1), (2, 0)))
        web = made_web(5, [(0, 1, (1, 3)), (2, 3, (1, 2)), (3, 4, (1, 7))])
        self.assertEqual(bettered(web, (0, 0, 0, 0, 0)), ((0, 1, 1, 0, 1), (3, 0)))

    def test_point_0_turns_the_side(self):
        web = made_web(3, [(0, 1, (1, 1)), (0, 2, (1, 1))])
        self.assertEqual(bettered(web, (0, 0, 0)), ((0, 1, 1), (0,)))
        web = made_web(3, [(0, 1, (2, 1)), (0, 2, (2, 1)), (1, 2, (1, 1))])
        self.assertEqual(bettered(web, (0, 0, 0)), ((0, 1, 1), (0,)))

    def test_a_point_twice(self):
        found = [bettered(web, (0,) * 7)[1] for web in [random_web(7, 21, seed) for seed in range(60)]]
        self.assertTrue([points for points in found if len(set(points)) < len(points)])

    def test_great_webs(self):
        for seed in range(3):
            web = random_web(60, 170, seed)
            chance = Random(seed)
            for side in ((0,) * 60, (0,) + tuple([chance.randrange(2) for point in range(59)]), greedy(web)):
                self.check(web, side)

    def test_great_bottoms(self):
        ties = [(point, (point + 1 + point % 7) % 60, (1, 999 - point)) for point in range(60)]
        web = made_web(60, ties)
        self.check(web, (0,) * 60)


if __name__ == "__main__":
    unittest.main()
