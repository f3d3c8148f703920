"""Tests of wishes [9] and grouped [10]."""

import unittest
from itertools import combinations, product
from random import Random

from heavycut.errors import NoWishes
from heavycut.webs import made_web
from heavycut.wishes import grouped, is_odd_ring, keeps, made_wishes
from samples import STRANGE, all_sides, check_repeated, is_kept, random_wishes, ring_web, sample_webs

CHAIN = [(point, point + 1, point % 2) for point in range(59)]


def is_odd_round(many, wishes, numbers):
    """Tell by counting whether these wishes are a ring and an odd number of them say apart."""
    ends = [end for number in numbers for end in wishes[number][:2]]
    if not all(ends.count(point) % 2 == 0 for point in range(many)):
        return False
    return sum(wishes[number][2] for number in numbers) % 2 == 1


class TestMadeWishes(unittest.TestCase):
    def refused(self, web, wishes):
        side = (0,) * web[0]
        for call in (lambda: made_wishes(web, wishes), lambda: keeps(web, wishes, side),
                     lambda: is_odd_ring(web, wishes, (0,)), lambda: is_odd_ring(web, wishes, None),
                     lambda: grouped(web, wishes)):
            with self.assertRaises(NoWishes, msg=repr(wishes)):
                call()

    def test_as_they_came(self):
        web = made_web(5, [(0, 1, (1, 1))])
        told = ((3, 1, 0), (0, 4, 1), (3, 1, 0), (1, 3, 1), (4, 0, 1))
        for wishes in (told, list(told), [list(wish) for wish in told], tuple([list(wish) for wish in told]),
                       [told[0], list(told[1]), told[2], list(told[3]), told[4]]):
            self.assertEqual(repr(check_repeated(self, made_wishes, web, wishes)), repr(told))
            self.assertEqual(check_repeated(self, grouped, web, wishes), grouped(web, told))
            self.assertEqual(check_repeated(self, is_odd_ring, web, wishes, (0, 3)), is_odd_ring(web, told, (0, 3)))
            for side in all_sides(5):
                self.assertEqual(check_repeated(self, keeps, web, wishes, side), keeps(web, told, side))

    def test_none(self):
        for web in (made_web(1, []), made_web(3, [])):
            self.assertEqual(repr(made_wishes(web, [])), "()")
            self.assertEqual(repr(made_wishes(web, ())), "()")

    def test_at_most_120(self):
        web = made_web(60, [])
        for kind in (list, tuple):
            self.assertEqual(made_wishes(web, kind([(59, 0, 1)] * 120)), ((59, 0, 1),) * 120)
            self.assertIs(keeps(web, kind([(59, 0, 1)] * 120), (0,) * 59 + (1,)), True)
            self.assertEqual(grouped(web, kind([(59, 0, 1)] * 120))[0], "groups")
            self.refused(web, kind([(59, 0, 1)] * 121))

    def test_wrong_points(self):
        web = made_web(3, [(0, 1, (1, 1))])
        for one, other in ((0, 0), (2, 2), (0, 3), (3, 0), (-1, 0), (0, -1), (True, 0), (0, True), (False, 1),
                           (1, False), ("0", 1), (0, "1"), (0.0, 1), (0, 1.0), (None, 1), (0, None), ((0,), 1),
                           (0, [1]), (10 ** 999, 0), (float("nan"), 1)):
            self.refused(web, [(one, other, 0)])
            self.refused(web, ((0, 1, 1), [one, other, 1]))
        self.refused(made_web(1, []), [(0, 0, 0)])
        self.refused(made_web(1, []), [(0, 1, 0)])

    def test_wrong_apart(self):
        web = made_web(3, [(0, 1, (1, 1))])
        for apart in (2, -1, None, True, False, "0", "1", 0.0, 1.0, (0,), [1], {}, 10 ** 999, float("nan")):
            self.refused(web, [(0, 1, apart)])
            self.refused(web, ((0, 1, 1), [0, 1, apart]))

    def test_wrong_wishes(self):
        web = made_web(3, [(0, 1, (1, 1))])
        for wish in STRANGE + ((), [], (0, 1), (0, 1, 0, 0), [0, 1], [0, 1, 1, 1], "010", {0: 0, 1: 1, 2: 0}, {0, 1, 2},
                               b"\x00\x01\x00", range(3)):
            self.refused(web, [wish])
            self.refused(web, ((0, 1, 1), wish))

    def test_other_kinds(self):
        web = made_web(3, [(0, 1, (1, 1))])
        for wishes in STRANGE + (None, "", {}, set(), {(0, 1, 1)}, {(0, 1, 1): 1}, range(0), iter([]), (0, 1, 1)):
            self.refused(web, wishes)

    def test_changed_afterwards(self):
        web = made_web(3, [])
        inner = [0, 1, 1]
        wishes = [inner, (1, 2, 0)]
        told, groups = made_wishes(web, wishes), grouped(web, wishes)
        inner[2] = 0
        wishes.pop()
        self.assertEqual(told, ((0, 1, 1), (1, 2, 0)))
        self.assertEqual(groups, ("groups", (0, 0, 0), (0, 1, 1)))


class TestKeeps(unittest.TestCase):
    def test_one_wish(self):
        web = made_web(3, [])
        for side in all_sides(3):
            for one, other in ((0, 1), (1, 0), (1, 2), (2, 0)):
                for apart in (0, 1):
                    self.assertIs(keeps(web, [(one, other, apart)], side), is_kept((one, other, apart), side))

    def test_written_out(self):
        web = made_web(4, [])
        wishes = [(0, 1, 1), (2, 3, 0)]
        self.assertIs(keeps(web, wishes, (0, 1, 0, 0)), True)
        self.assertIs(keeps(web, wishes, (0, 1, 1, 1)), True)
        self.assertIs(keeps(web, wishes, (0, 0, 1, 1)), False)
        self.assertIs(keeps(web, wishes, (0, 1, 0, 1)), False)
        self.assertIs(keeps(web, [], (0, 1, 0, 1)), True)
        self.assertIs(keeps(web, (), (0, 0, 0, 0)), True)

    def test_many_wishes(self):
        for seed in range(30):
            web = made_web(5, [])
            wishes = random_wishes(5, seed % 5, seed)
            for side in all_sides(5):
                self.assertIs(keeps(web, wishes, side), all(is_kept(wish, side) for wish in wishes))


class TestIsOddRing(unittest.TestCase):
    def test_all_choices(self):
        for seed in range(40):
            wishes = random_wishes(4, 6, seed)
            web = made_web(4, [])
            for length in range(1, 7):
                for choice in combinations(range(6), length):
                    self.assertIs(is_odd_ring(web, wishes, choice), is_odd_round(4, wishes, choice))

    def test_written_out(self):
        web = made_web(4, [])
        wishes = [(0, 1, 1), (1, 2, 1), (2, 0, 1), (1, 0, 0), (3, 2, 0)]
        self.assertIs(is_odd_ring(web, wishes, (0, 1, 2)), True)
        self.assertIs(is_odd_ring(web, wishes, (1, 2, 3)), False)
        self.assertIs(is_odd_ring(web, wishes, (0, 3)), True)
        self.assertIs(is_odd_ring(web, wishes, (0, 1)), False)
        self.assertIs(is_odd_ring(web, wishes, (0, 1, 2, 4)), False)
        self.assertIs(is_odd_ring(web, [(0, 1, 1), (0, 1, 1)], (0, 1)), False)
        self.assertIs(is_odd_ring(web, [], ()), False)

    def test_not_such_a_tuple(self):
        web = made_web(3, [])
        wishes = [(0, 1, 1), (1, 2, 1), (2, 0, 1)]
        for thing in STRANGE + ((), [], [0, 1, 2], (0, 2, 1), (2, 1, 0), (0, 1, 1, 1, 2), (0, 0, 0, 1, 2), (0, 1, 3),
                                (-1, 0, 1), (-3, -2, -1), (0, 1, -1), (False, 1, 2), (0, True, 2), (0, 1, 2.0),
                                (0, "1", 2), (0, None, 2), (0, [1], 2), {0: 0, 1: 1, 2: 2}, range(3), "012",
                                (0, 1, 10 ** 999)):
            self.assertIs(is_odd_ring(web, wishes, thing), False, repr(thing))

    def test_by_wishes_and_not_by_ties(self):
        web = ring_web(3, [0, 1, 2])
        self.assertIs(is_odd_ring(web, [], (0, 1, 2)), False)
        self.assertIs(is_odd_ring(web, [(0, 1, 0), (0, 1, 1)], (0, 1)), True)


class TestGrouped(unittest.TestCase):
    def check_groups(self, many, wishes, groups, marks):
        for row in (groups, marks):
            self.assertIsInstance(row, tuple)
            self.assertEqual(len(row), many)
        firsts = [point for point in range(many) if groups[point] not in groups[:point]]
        self.assertEqual([groups[first] for first in firsts], list(range(len(firsts))))
        self.assertEqual([marks[first] for first in firsts], [0] * len(firsts))
        # A spread of numbers till nothing changes tells the groups in another way.
        own = list(range(many))
        for turn in range(many):
            for one, other, apart in wishes:
                own[one] = own[other] = min(own[one], own[other])
        self.assertEqual([firsts[group] for group in groups], own)
        for one, other, apart in wishes:
            self.assertEqual(marks[one] ^ marks[other], apart)

    def check(self, many, wishes, kind=None):
        web = made_web(many, [])
        answer = grouped(web, wishes)
        self.assertIsInstance(answer, tuple)
        if kind is not None:
            self.assertEqual(answer[0], kind)
        if answer[0] == "ring":
            word, ring = answer
            self.assertIs(is_odd_ring(web, wishes, ring), True)
            self.assertTrue(is_odd_round(many, wishes, ring))
        else:
            word, groups, marks = answer
            self.assertEqual(word, "groups")
            self.check_groups(many, wishes, groups, marks)
        return answer

    def check_sides(self, many, wishes):
        answer = self.check(many, wishes)
        kept = [side for side in all_sides(many) if all(is_kept(wish, side) for wish in wishes)]
        if answer[0] == "ring":
            self.assertEqual(kept, [])
            return
        word, groups, marks = answer
        for side in all_sides(many):
            turns = {(groups[point], marks[point] ^ side[point]) for point in range(many)}
            self.assertEqual(side in kept, len(turns) == len(set(groups)))

    def test_all_wishes_of_three_points(self):
        wishes = [(a, b, apart) for a in range(3) for b in range(3) if a != b for apart in (0, 1)]
        for length in range(4):
            for told in product(wishes, repeat=length):
                self.check_sides(3, told)

    def test_over_all_sides(self):
        for seed in range(120):
            many = 2 + seed % 6
            self.check_sides(many, random_wishes(many, seed % 9, seed))

    def test_written_out(self):
        web = made_web(6, [])
        self.assertEqual(grouped(web, []), ("groups", (0, 1, 2, 3, 4, 5), (0, 0, 0, 0, 0, 0)))
        self.assertEqual(grouped(web, ()), ("groups", (0, 1, 2, 3, 4, 5), (0, 0, 0, 0, 0, 0)))
        self.assertEqual(grouped(web, [(5, 1, 1), (4, 3, 0), (1, 3, 1)]), ("groups", (0, 1, 2, 1, 1, 1), (0, 0, 0, 1, 1, 1)))
        self.assertEqual(grouped(web, [(5, 0, 1), (5, 0, 1), (0, 5, 1)]), ("groups", (0, 1, 2, 3, 4, 0), (0, 0, 0, 0, 0, 1)))
        self.assertEqual(grouped(web, [(2, 3, 0), (5, 4, 1), (4, 5, 0)]), ("ring", (1, 2)))
        self.assertEqual(grouped(made_web(1, []), []), ("groups", (0,), (0,)))

    def test_ties_do_not_join(self):
        for web in sample_webs():
            self.assertEqual(grouped(web, []), ("groups", tuple(range(web[0])), (0,) * web[0]))

    def test_chains(self):
        self.check(60, CHAIN, "groups")
        self.check(60, CHAIN[::-1], "groups")
        self.check(60, CHAIN + CHAIN, "groups")
        self.check(60, CHAIN + CHAIN + [CHAIN[0], CHAIN[1]], "groups")
        apart = sum(wish[2] for wish in CHAIN) % 2
        self.check(60, CHAIN + [(59, 0, apart)], "groups")
        answer = self.check(60, CHAIN + [(59, 0, 1 - apart)], "ring")
        self.assertEqual(answer, ("ring", tuple(range(60))))
        self.check(60, [(30, 50, 1)] + CHAIN[20:] + [(59, 20, 1)] + CHAIN[:10])

    def test_ways_in_common_drop_out(self):
        wishes = CHAIN[:56] + [(56, 57, 1), (57, 58, 1), (56, 58, 1)]
        self.assertEqual(self.check(60, wishes, "ring"), ("ring", (56, 57, 58)))

    def test_many_wishes_of_60_points(self):
        for seed in range(20):
            chance = Random(seed)
            self.check(60, random_wishes(60, 6 * seed, seed))
            bits = [chance.randrange(2) for point in range(60)]
            pairs = [chance.sample(range(60), 2) for k in range(120)]
            self.check(60, [(one, other, bits[one] ^ bits[other]) for one, other in pairs], "groups")


if __name__ == "__main__":
    unittest.main()
