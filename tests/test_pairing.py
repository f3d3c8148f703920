"""Tests of least pairings [25]."""

import unittest
from fractions import Fraction
from functools import lru_cache
from itertools import product
from random import Random

from heavycut.fractions import is_fraction
from heavycut.pairing import least_pairing
from samples import as_number, as_pair, check_repeated

ONE = (1, 1)
ZERO = (0, 1)


def all_pairings(rows):
    """Answer all ways to pair these rows."""
    if not rows:
        return [[]]
    first, found = rows[0], []
    for other in rows[1:]:
        left = [row for row in rows[1:] if row != other]
        found += [[(first, other)] + pairing for pairing in all_pairings(left)]
    return found


def least_of_all(table):
    """Answer the least sum over all pairings without None, or None if there is none."""
    sums = []
    for pairing in all_pairings(list(range(len(table)))):
        entries = [table[one][other] for one, other in pairing]
        if None not in entries:
            sums.append(sum([as_number(entry) for entry in entries], Fraction(0)))
    return min(sums) if sums else None


def least_by_rows_left(table):
    """Answer the same for more rows, by what is least for each choice of rows that are left."""
    many = len(table)

    @lru_cache(None)
    def least(taken):
        if taken == (1 << many) - 1:
            return Fraction(0)
        one = [row for row in range(many) if not taken >> row & 1][0]
        sums = []
        for other in range(one + 1, many):
            if not taken >> other & 1 and table[one][other] is not None:
                rest = least(taken | 1 << one | 1 << other)
                if rest is not None:
                    sums.append(rest + as_number(table[one][other]))
        return min(sums) if sums else None

    return least(0)


def made_table(many, told):
    """Answer the symmetrical table of lists with what is told of each two rows s < t."""
    table = [[ZERO] * many for row in range(many)]
    for one in range(many):
        for other in range(one + 1, many):
            table[one][other] = table[other][one] = told(one, other)
    return table


def camp_table(homes, steps):
    """Answer the table of rows with such homes: tuples, and rows are as far as the step of the first unlike place."""
    def told(one, other):
        for step, here, there in zip(steps, homes[one], homes[other]):
            if here != there:
                return as_pair(step)
        return ZERO
    return made_table(len(homes), told)


def depth_of(groups):
    """Answer how many groups stand within each other at most."""
    inside = [[other for other, share in groups if set(other) > set(some)] for some, share in groups]
    return max([0] + [1 + len(others) for others in inside])


class Pairings(unittest.TestCase):
    def check_pairs(self, table, pairs):
        """Check the pairs, and answer the sum of their entries."""
        self.assertIsInstance(pairs, tuple)
        for pair in pairs:
            self.assertIsInstance(pair, tuple)
            one, other = pair
            self.assertLess(one, other)
            self.assertIsNotNone(table[one][other])
        self.assertEqual(pairs, tuple(sorted(pairs)))
        self.assertEqual(repr(sorted([row for pair in pairs for row in pair])), repr(list(range(len(table)))))
        return sum([as_number(table[one][other]) for one, other in pairs], Fraction(0))

    def check_groups(self, many, groups):
        self.assertIsInstance(groups, tuple)
        for group in groups:
            self.assertIsInstance(group, tuple)
            some, share = group
            self.assertIsInstance(some, tuple)
            self.assertEqual(len(some) % 2, 1)
            self.assertGreaterEqual(len(some), 3)
            self.assertEqual(repr(some), repr(tuple(sorted(set(some)))))
            self.assertTrue(all(row in range(many) for row in some))
            self.assertTrue(is_fraction(share))
            self.assertGreater(as_number(share), 0)

    def check(self, table):
        """Check that the answer is a pairing with prices and groups by which none is less; answer (sum, groups)."""
        answer = check_repeated(self, least_pairing, table)
        self.assertIsInstance(answer, tuple)
        pairs, prices, groups = answer
        many = len(table)
        total = self.check_pairs(table, pairs)
        self.assertIsInstance(prices, tuple)
        self.assertEqual(len(prices), many)
        self.assertTrue(all(is_fraction(price) for price in prices))
        self.check_groups(many, groups)
        worths = [as_number(price) for price in prices]
        held = [(set(some), as_number(share)) for some, share in groups]
        for one in range(many):
            for other in range(one + 1, many):
                if table[one][other] is not None:
                    between = sum([share for some, share in held if (one in some) != (other in some)], Fraction(0))
                    self.assertLessEqual(worths[one] + worths[other] + between, as_number(table[one][other]))
        self.assertEqual(sum(worths, Fraction(0)) + sum([share for some, share in held], Fraction(0)), total)
        return total, groups

    def check_least(self, table):
        """Check the answer for few rows against all pairings."""
        least = least_of_all(table)
        if least is None:
            self.assertIsNone(check_repeated(self, least_pairing, table))
        else:
            self.assertEqual(self.check(table)[0], least)
        return least


class TestSmallTables(Pairings):
    def test_no_rows(self):
        self.assertEqual(repr(least_pairing(())), "((), (), ())")
        self.assertEqual(repr(least_pairing([])), "((), (), ())")

    def test_two_rows(self):
        for entry in (ZERO, ONE, (7, 3), (1, 10 ** 50), (10 ** 60, 7)):
            self.check_least(made_table(2, lambda one, other: entry))
            self.assertEqual(least_pairing([[ZERO, entry], [entry, ZERO]])[0], ((0, 1),))
        self.assertIsNone(least_pairing([[ZERO, None], [None, ZERO]]))
        self.assertIsNone(least_pairing(((ZERO, None), (None, ZERO))))

    def test_all_tables_of_four_rows(self):
        places = [(one, other) for one in range(4) for other in range(one + 1, 4)]
        for entries in product((ZERO, ONE, (5, 2), None), repeat=6):
            told = dict(zip(places, entries))
            self.check_least(made_table(4, lambda one, other: told[(one, other)]))

    def test_lists_and_tuples(self):
        chance = Random(5)
        for many in (2, 4, 6, 8):
            table = made_table(many, lambda one, other: (chance.randrange(9), 1))
            answer = self.check_least(table) is not None and least_pairing(table)
            for rows in (tuple(table), [tuple(row) for row in table], tuple([tuple(row) for row in table])):
                self.check_least(rows)
                self.assertEqual(repr(least_pairing(rows)), repr(answer))

    def test_entries_of_all_kinds(self):
        chance = Random(1)
        kinds = (
            lambda one, other: ZERO,
            lambda one, other: ONE,
            lambda one, other: (5, 3),
            lambda one, other: (chance.randrange(2), 1),
            lambda one, other: (chance.randrange(3), 1),
            lambda one, other: (chance.randrange(100), 1),
            lambda one, other: as_pair(Fraction(chance.randrange(50), chance.randrange(1, 30))),
            lambda one, other: as_pair(Fraction(1, chance.randrange(1, 10 ** 6))),
            lambda one, other: (10 ** 40 + chance.randrange(10 ** 20), 1),
            lambda one, other: as_pair(Fraction(chance.randrange(10 ** 45), chance.randrange(1, 10 ** 12))),
            lambda one, other: ((one * other) % 5, 1),
        )
        for many in (2, 4, 6, 8):
            for told in kinds:
                for turn in range(8):
                    self.check_least(made_table(many, told))

    def test_prices_below_0(self):
        # Row 0 is close to all others, and these are far from each other.
        table = made_table(4, lambda one, other: ONE if one == 0 else (10, 1))
        total, groups = self.check(table)
        self.assertEqual(total, 11)
        prices = least_pairing(table)[1]
        self.assertLess(min([as_number(price) for price in prices]), 0)


class TestGroups(Pairings):
    def test_camps_of_three(self):
        # Without groups nothing could be asked of rows in a camp, and the camps are 10 from each other.
        table = camp_table([(0,), (0,), (0,), (1,), (1,), (1,)], [10])
        total, groups = self.check(table)
        self.assertEqual(total, 10)
        self.assertEqual(self.check_least(table), 10)
        self.assertTrue(groups)

    def test_odd_camps_of_unlike_sizes(self):
        for sizes in ((3, 5), (1, 3), (5, 1), (3, 3, 1, 1), (7, 1), (1, 1, 3, 3)):
            homes = [(camp,) for camp, size in enumerate(sizes) for row in range(size)]
            table = camp_table(homes, [Fraction(7, 2)])
            self.assertEqual(self.check_least(table), Fraction(7, 2) * (len(sizes) // 2))
        for seed in range(20):
            chance = Random(seed)
            homes = [(camp,) for camp in (0, 0, 0, 1, 1, 1, 2, 3)]
            chance.shuffle(homes)
            table = made_table(8, lambda one, other: (chance.randrange(4) + 40 * abs(homes[one][0] - homes[other][0]), 1))
            self.check_least(table)

    def test_camps_of_camps(self):
        steps = [100, Fraction(9, 2), Fraction(1, 3)]
        homes = [(a, b, c) for a in range(2) for b in range(3) for c in range(3)]
        table = camp_table(homes, steps)
        total, groups = self.check(table)
        # All three of a camp are 1/3 from each other: one pair in each of six camps, one pair of camps
        # in each of the two great camps, and one pair between these.
        self.assertEqual(total, 6 * Fraction(1, 3) + 2 * Fraction(9, 2) + 100)
        self.assertGreaterEqual(depth_of(groups), 2)
        homes = [(a, b, c, 0) for a in range(2) for b in range(3) for c in range(5)]
        total, groups = self.check(camp_table(homes, [1000, 50, 2]))
        self.assertEqual(total, 1000 + 2 * 50 + 6 * 2 * 2)
        self.assertGreaterEqual(depth_of(groups), 2)

    def test_camps_of_camps_of_camps(self):
        homes = [(a, b, c) for a in range(2) for b in range(5) for c in range(3)] + [(0, 9, 0), (1, 9, 0)]
        total, groups = self.check(camp_table(homes, [10 ** 50, 10 ** 20, 1]))
        # Both great camps are even now, so none is paired across: one pair in each camp of three, and the
        # six rows that are left over in either great camp are paired between camps.
        self.assertEqual(total, 2 * (3 * 10 ** 20 + 5))
        homes = [(0, 0, c, d) for c in range(3) for d in range(3)] + [(0, 1, 0, 0), (0, 2, 0, 0), (1, 0, 0, 0)]
        table = camp_table(homes, [1000, 100, 10, 1])
        total, groups = self.check(table)
        self.assertEqual(total, least_by_rows_left(table))
        self.assertGreaterEqual(depth_of(groups), 3)

    def test_places_in_the_plane(self):
        deepest = 0
        for seed in range(60):
            chance = Random(seed)
            many = chance.choice((6, 8, 10, 12))
            spots = [(100 * chance.randrange(3) + 20 * chance.randrange(2) + chance.randrange(4),
                      100 * chance.randrange(2) + chance.randrange(4)) for row in range(many)]
            table = made_table(many, lambda one, other: (
                abs(spots[one][0] - spots[other][0]) + abs(spots[one][1] - spots[other][1]), 1))
            total, groups = self.check(table)
            self.assertEqual(total, least_by_rows_left(table))
            deepest = max(deepest, depth_of(groups))
        self.assertGreaterEqual(deepest, 3)


class TestNone(Pairings):
    def test_two_parts_of_odd_sizes(self):
        for sizes in ((1, 1), (1, 3), (3, 3), (3, 5), (5, 3), (1, 7), (7, 1)):
            table = made_table(sum(sizes), lambda one, other: ONE if (one < sizes[0]) == (other < sizes[0]) else None)
            self.assertIsNone(self.check_least(table))
        for first in (1, 5, 15, 17, 31):
            table = made_table(32, lambda one, other: ONE if (one < first) == (other < first) else None)
            self.assertIsNone(check_repeated(self, least_pairing, table))
            # One entry between the two parts is enough.
            table[0][31] = table[31][0] = (12, 1)
            self.assertEqual(self.check(table)[0], 12 + 15)

    def test_two_parts_of_even_sizes(self):
        for first in (2, 4, 6):
            table = made_table(8, lambda one, other: (one + other, 3) if (one < first) == (other < first) and (one + other) % 3
                               else ((one + other) // 3, 1) if (one < first) == (other < first) else None)
            self.assertIsNotNone(self.check_least(table))

    def test_few_middle_rows(self):
        for many in (4, 6, 8):
            for middle in range(1, many):
                table = made_table(many, lambda one, other: (one + 2 * other, 1) if one < middle else None)
                least = self.check_least(table)
                self.assertEqual(least is None, middle < many // 2)
        for middle in (1, 7, 15):
            table = made_table(32, lambda one, other: (other, 1) if one < middle else None)
            self.assertIsNone(least_pairing(table))
        table = made_table(32, lambda one, other: (other * one % 7, 1) if one < 16 else None)
        self.check(table)

    def test_odd_parts_behind_middle_rows(self):
        # Row 0 can be paired with one row of one of the three odd camps only; there are no entries between these.
        camp = [0, 1, 1, 1, 2, 2, 2, 3, 3, 3]
        table = made_table(10, lambda one, other: ONE if one == 0 or camp[one] == camp[other] else None)
        self.assertIsNone(least_pairing(table))
        self.assertIsNone(least_by_rows_left(table))
        table[3][4] = table[4][3] = (5, 1)
        self.assertEqual(self.check(table)[0], least_by_rows_left(table))

    def test_no_entries_at_all(self):
        for many in (2, 4, 32):
            self.assertIsNone(least_pairing(made_table(many, lambda one, other: None)))

    def test_just_one_pairing(self):
        for many in (4, 8, 32):
            table = made_table(many, lambda one, other: (other, 1) if other == one + 1 else None)
            total, groups = self.check(table)
            self.assertEqual(least_pairing(table)[0], tuple([(row, row + 1) for row in range(0, many, 2)]))

    def test_many_tables(self):
        found = {True: 0, False: 0}
        for seed in range(400):
            chance = Random(seed)
            many = chance.choice((2, 4, 6, 8))
            missing = chance.choice((0.2, 0.4, 0.6, 0.8))
            most = chance.choice((1, 2, 5, 50))
            table = made_table(many, lambda one, other: None if chance.random() < missing else as_pair(
                Fraction(chance.randrange(most), chance.randrange(1, 4))))
            found[self.check_least(table) is None] += 1
        self.assertGreater(min(found.values()), 50)


class TestManyRows(Pairings):
    def test_against_rows_left(self):
        for seed in range(20):
            chance = Random(seed)
            most = chance.choice((2, 4, 30, 10 ** 44))
            missing = chance.choice((0, 0, 0.5, 0.7))
            table = made_table(12, lambda one, other: None if chance.random() < missing else (chance.randrange(most), 1))
            least = least_by_rows_left(table)
            if least is None:
                self.assertIsNone(least_pairing(table))
            else:
                self.assertEqual(self.check(table)[0], least)

    def test_32_rows(self):
        chance = Random(3)
        kinds = (
            lambda one, other: ZERO,
            lambda one, other: ONE,
            lambda one, other: (chance.randrange(2), 1),
            lambda one, other: (chance.randrange(1, 12), 1),
            lambda one, other: (chance.randrange(10 ** 9), 1),
            lambda one, other: as_pair(Fraction(chance.randrange(10 ** 9), chance.randrange(1, 1001))),
            lambda one, other: (10 ** 41 + chance.randrange(10 ** 41), 1),
            lambda one, other: (abs(one - other), 1),
            lambda one, other: ((one - other) ** 2, 1),
            lambda one, other: ((one ^ other) % 7, 1),
            lambda one, other: None if chance.random() < 0.5 else (chance.randrange(1000), 1),
        )
        for told in kinds:
            for many in (16, 30, 32):
                self.check(made_table(many, told))

    def test_32_rows_in_camps(self):
        self.check(camp_table([(a, b, c) for a in range(2) for b in range(4) for c in range(4)], [90, 9, 1]))
        self.check(camp_table([(row // 3,) for row in range(32)], [7]))
        total, groups = self.check(camp_table([(row % 10, row % 5) for row in range(30)], [9, 1]))
        self.assertEqual(total, 5 * 9)
        deepest = 0
        for seed in range(15):
            chance = Random(seed)
            spots = [1000 * chance.randrange(3) + 100 * chance.randrange(3) + 10 * chance.randrange(3) + chance.randrange(3)
                     for row in range(32)]
            steps = [10 ** chance.randrange(4) for row in range(32)]
            table = made_table(32, lambda one, other: (abs(spots[one] - spots[other]) + steps[one] + steps[other], 1))
            self.check(table)
            table = made_table(32, lambda one, other: (abs(spots[one] - spots[other]) + 777 * (steps[one] != steps[other]), 1))
            deepest = max(deepest, depth_of(self.check(table)[1]))
        self.assertGreaterEqual(deepest, 3)


class TestArguments(Pairings):
    def test_tables_stay_as_they_were(self):
        table = camp_table([(0,), (0,), (0,), (1,), (1,), (1,)], [10])
        shown = repr(table)
        least_pairing(table)
        self.assertEqual(repr(table), shown)

    def test_changed_afterwards(self):
        table = camp_table([(0,), (0,), (0,), (1,), (1,), (1,)], [10])
        answer = least_pairing(table)
        shown = repr(answer)
        table[0][1] = table[1][0] = (99, 1)
        table.pop()
        self.assertEqual(repr(answer), shown)

    def test_the_same_row_at_several_places(self):
        row = [ZERO] * 4
        self.check([row, row, row, row])


if __name__ == "__main__":
    unittest.main()
