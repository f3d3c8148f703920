"""Tests of desks [31] to [36]."""

import unittest
from fractions import Fraction
from random import Random

from heavycut.desks import Desk
from heavycut.errors import CutError, NoDeed, NoTie, NoWeight, TooGreat
from heavycut.reader import bound_of, meets
from heavycut.webs import made_web
from samples import (
    DEEP_LIST, DEEP_TUPLE, STRANGE, as_number, as_pair, most_weight, number_of, random_fraction, random_web, ring_web,
    sample_webs, whole_web,
)

ONE = (1, 1)
MOST = 1000000000
NO_WEIGHTS = STRANGE + (
    [1, 1], [0, 1], (2, 2), (2, 4), (0, 2), (1, 0), (1, -1), (-1, -1), (MOST + 1, 1), (-MOST - 1, 1), (1, 1001), (-1, 1001),
    (10 ** 999, 1), (1, 10 ** 999), (1,), (1, 1, 1), (True, 1), (1, True), (False, 1), (1.0, 1), (1, 1.0), ("1", 1), (1, "1"),
    (None, 1), (1, None), ((1, 1), 1), Fraction(1, 2), Fraction(1), "1/2", "1", 1, (),
)
WEIGHTS = (ONE, (0, 1), (-1, 1), (7, 3), (MOST, 1), (-MOST, 999), (999999999, 1000), (1, 1000))

# No two of these are two unlike points of a web of four points.
NO_POINTS = ((0, 0), (3, 3), (0, 4), (4, 0), (-1, 0), (0, -1), (3, -4), (4, 5), (10 ** 999, 0), (0, -(10 ** 999)), (True, 0),
             (True, 2), (0, True), (2, False), (0.0, 1), (0, 1.0), ("0", 1), (0, "1"), (None, 1), (0, None), (None, None),
             ((0,), 1), (0, [1]), ((0, 1), (0, 1)), ((0, 1), None), (DEEP_TUPLE, DEEP_LIST), ({}, 0), (0, {1}), ("", ""))


def told_by_points(web, paper):
    """Answer a paper with each ring as a list of the points of its ties."""
    if paper[0] == "cases":
        return paper[:3] + (told_by_points(web, paper[3]), told_by_points(web, paper[4]))
    return ("rings", [([web[1][tie][:2] for tie in ring], share) for ring, share in paper[1]])


def told_by_numbers(web, paper):
    """Answer a paper told by points with the numbers of a web's ties; None stands for a tie that is not there."""
    if paper[0] == "cases":
        return paper[:3] + (told_by_numbers(web, paper[3]), told_by_numbers(web, paper[4]))
    places = {tie[:2]: number for number, tie in enumerate(web[1])}
    rows = [([places.get(pair) for pair in ring], share) for ring, share in paper[1]]
    return ("rings", tuple([(tuple(ring if None in ring else sorted(ring)), share) for ring, share in rows]))


class Desks(unittest.TestCase):
    def check_standing(self, desk, ties):
        """Check that web, side and paper meet, the web having just these ties."""
        web, side, paper = desk.standing()
        self.assertEqual(repr(web), repr(made_web(web[0], [pair + (weight,) for pair, weight in ties.items()])))
        self.assertIs(meets(web, [], side, paper), True)
        self.check_kind(paper)
        if web[0] <= 8:
            self.assertEqual(number_of(web, side), most_weight(web, []))

    def check_kind(self, paper):
        if paper[0] == "rings":
            self.assertEqual(len(paper), 2)
        else:
            self.assertEqual((paper[0], len(paper)), ("cases", 5))
            self.check_kind(paper[3])
            self.check_kind(paper[4])

    def deed(self, desk, name, one, other, weight=None):
        """Do a deed, check what stands behind it and the answer, and answer that."""
        web, side, paper = ahead = desk.standing()
        shown = repr(ahead)
        ties = {tie[:2]: tie[2] for tie in web[1]}
        pair = (min(one, other), max(one, other))
        if name == "take":
            del ties[pair]
            answer = desk.take(one, other)
        else:
            ties[pair] = weight
            answer = getattr(desk, name)(one, other, weight)
        self.assertIn(repr(answer), ("0", "1"))
        now = desk.standing()
        self.assertEqual(repr(ahead), shown)
        self.check_standing(desk, ties)
        follows = told_by_numbers(now[0], told_by_points(web, paper))
        kept = meets(now[0], [], side, follows)
        self.assertEqual(answer, 1 if kept else 0)
        if kept:
            self.assertEqual(repr(now[1:]), repr((side, follows)))
        return answer

    def random_deed(self, desk, chance, told):
        """Do some deed."""
        web = desk.standing()[0]
        one, other = chance.sample(range(web[0]), 2)
        has = (min(one, other), max(one, other)) in [tie[:2] for tie in web[1]]
        name = "put" if not has else chance.choice(("change", "take"))
        return self.deed(desk, name, one, other, None if name == "take" else told(chance))

    def refused(self, desk, error, name, *arguments):
        ahead = repr(desk.standing())
        with self.assertRaises(error, msg=repr(arguments)):
            getattr(desk, name)(*arguments)
        self.assertEqual(repr(desk.standing()), ahead)


class TestMade(Desks):
    def test_small_webs(self):
        for web in sample_webs():
            desk = Desk(web)
            self.assertEqual(repr(desk.standing()[0]), repr(web))
            self.check_standing(desk, {tie[:2]: tie[2] for tie in web[1]})
            self.assertEqual(repr(Desk(web).standing()), repr(desk.standing()))

    def test_up_to_16_points(self):
        for many in (15, 16):
            for web in (made_web(many, []), ring_web(many, list(range(many))), random_web(many, 60, many), whole_web(many)):
                self.check_standing(Desk(web), {tie[:2]: tie[2] for tie in web[1]})
        for many in (17, 18, 60):
            for web in (made_web(many, []), ring_web(many, list(range(many))), random_web(many, 60, many)):
                with self.assertRaises(TooGreat):
                    Desk(web)

    def test_methods_of_the_class_itself(self):
        for name in ("__init__", "change", "put", "take", "standing", "undo"):
            self.assertIn(name, vars(Desk))


class TestDeeds(Desks):
    def test_written_out(self):
        desk = Desk(ring_web(3, [0, 1, 2]))
        web, side, paper = desk.standing()
        self.assertEqual(paper, ("rings", (((0, 1, 2), ONE),)))
        # A tie that is cut, or not gainful and not cut, may weigh more or be put, and both are kept.
        lost = [tie[:2] for tie in web[1] if side[tie[0]] == side[tie[1]]]
        cut = [tie[:2] for tie in web[1] if tie[:2] not in lost]
        self.assertEqual(self.deed(desk, "change", *cut[0], (5, 1)), 1)
        self.assertEqual(self.deed(desk, "change", *cut[1], (3, 2)), 1)
        self.assertEqual(self.deed(desk, "change", *lost[0], (1, 2)), 0)
        self.assertEqual(self.deed(desk, "take", *lost[0]), 0)
        self.assertEqual(desk.undo(), 3)

    def test_points_in_any_order(self):
        for one, other in ((0, 1), (1, 0), (3, 1), (2, 3), (3, 2)):
            desk = Desk(whole_web(4))
            self.deed(desk, "change", one, other, (2, 1))
            self.deed(desk, "take", other, one)
            self.deed(desk, "put", one, other, (-3, 1))
            self.deed(desk, "take", one, other)
            self.deed(desk, "put", other, one, (5, 1))
            self.deed(desk, "change", other, one, (0, 1))

    def test_all_weights(self):
        for weight in WEIGHTS:
            for web in (whole_web(4), made_web(4, []), ring_web(4, [0, 1, 2])):
                desk = Desk(web)
                for one, other in ((0, 1), (1, 2), (3, 0)):
                    has = (min(one, other), max(one, other)) in [tie[:2] for tie in web[1]]
                    self.deed(desk, "change" if has else "put", one, other, weight)

    def test_the_weight_that_it_has(self):
        for web in sample_webs() + [random_web(16, 60, 3), whole_web(7)]:
            desk = Desk(web)
            ahead = repr(desk.standing())
            for count, (one, other, weight) in enumerate(web[1]):
                self.assertEqual(repr(desk.change(other, one, weight)), "1")
                self.assertEqual(repr(desk.standing()), ahead)
            for left in range(len(web[1]) - 1, -1, -1):
                self.assertEqual(repr(desk.undo()), repr(left))
                self.assertEqual(repr(desk.standing()), ahead)

    def test_numbers_shift(self):
        # The odd ring is of points 2 to 4; ties that are put and taken stand ahead of it.
        desk = Desk(ring_web(6, [2, 3, 4]))
        self.assertEqual(desk.standing()[2], ("rings", (((0, 1, 2), ONE),)))
        self.assertEqual(self.deed(desk, "put", 0, 1, (0, 1)), 1)
        self.assertEqual(desk.standing()[2], ("rings", (((1, 2, 3), ONE),)))
        side = desk.standing()[1]
        weight = ONE if side[0] != side[4] else (-1, 1)
        self.assertEqual(self.deed(desk, "put", 4, 0, weight), 1)
        self.assertEqual(desk.standing()[2], ("rings", (((2, 3, 4), ONE),)))
        self.assertEqual(self.deed(desk, "put", 3, 5, ONE if side[3] != side[5] else (-1, 1)), 1)
        self.assertEqual(self.deed(desk, "put", 2, 5, (0, 1)), 1)
        self.assertEqual(desk.standing()[2], ("rings", (((2, 3, 5), ONE),)))
        self.assertEqual(self.deed(desk, "take", 1, 0), 1)
        self.assertEqual(self.deed(desk, "take", 0, 4), 1)
        self.assertEqual(desk.standing()[2], ("rings", (((0, 1, 3), ONE),)))
        self.assertEqual([desk.undo() for k in range(6)], [5, 4, 3, 2, 1, 0])
        self.assertEqual(desk.standing()[:1], (ring_web(6, [2, 3, 4]),))

    def test_a_tie_of_a_ring_taken_away(self):
        desk = Desk(ring_web(5, [0, 1, 2, 3, 4]))
        self.assertEqual(len(desk.standing()[2][1]), 1)
        self.assertEqual(self.deed(desk, "take", 2, 3), 0)
        self.assertEqual(number_of(*desk.standing()[:2]), 4)
        self.assertEqual(desk.standing()[2], ("rings", ()))
        self.assertEqual(self.deed(desk, "put", 2, 3, ONE), 0)

    def test_a_tie_of_size_0_is_in_no_ring(self):
        desk = Desk(made_web(3, [(0, 1, ONE), (0, 2, ONE), (1, 2, (0, 1))]))
        self.assertEqual(self.deed(desk, "take", 1, 2), 1)
        self.assertEqual(self.deed(desk, "put", 1, 2, (0, 1)), 1)
        self.assertEqual(self.deed(desk, "take", 0, 2), 1)

    def test_case_papers_follow(self):
        # Five points with all ties have no ring paper that is enough.
        for many in (5, 6, 7):
            web = made_web(many + 2, whole_web(many)[1])
            desk = Desk(web)
            self.assertEqual(desk.standing()[2][0], "cases")
            side = desk.standing()[1]
            kept = 0
            for one, other in ((0, many), (many + 1, 0), (1, many), (many, many + 1), (2, many + 1)):
                kept += self.deed(desk, "put", one, other, (2, 1) if side[one] != side[other] else (-2, 3))
            self.assertEqual(kept, 5)
            for one, other in ((0, many), (many, many + 1), (2, many + 1)):
                self.assertEqual(self.deed(desk, "take", one, other), 1)
            self.assertEqual(desk.standing()[2][0], "cases")
            self.deed(desk, "take", 0, 1)
            self.deed(desk, "change", 1, 2, (-1, 1))

    def test_many_deeds(self):
        kinds = (random_fraction, lambda chance: (chance.choice((-1, 0, 1)), 1), lambda chance: ONE,
                 lambda chance: as_pair(Fraction(chance.randrange(-MOST, MOST + 1), chance.randrange(1, 1001))))
        answers = {0: 0, 1: 0}
        for seed in range(16):
            chance = Random(seed)
            many = 2 + seed % 6
            desk = Desk(random_web(many, chance.randrange(12), seed))
            for k in range(30):
                answers[self.random_deed(desk, chance, kinds[seed % 4])] += 1
        self.assertGreater(min(answers.values()), 60)

    def test_16_points(self):
        for seed, web in enumerate((made_web(16, []), random_web(16, 40, 1), random_web(16, 119, 2), whole_web(12))):
            chance = Random(seed)
            desk = Desk(web)
            for k in range(12):
                self.random_deed(desk, chance, random_fraction)
            self.assertEqual(desk.undo(), 11)

    def test_from_no_ties_to_all(self):
        desk = Desk(made_web(6, []))
        pairs = [(a, b) for a in range(6) for b in range(a)]
        for one, other in pairs:
            self.deed(desk, "put", one, other, ONE)
        self.assertEqual(desk.standing()[0], whole_web(6))
        for one, other in pairs:
            self.deed(desk, "take", other, one)
        self.assertEqual(desk.standing()[0], made_web(6, []))
        self.assertEqual(desk.undo(), 29)


class TestRefused(Desks):
    def test_no_tie(self):
        web = made_web(4, [(0, 1, ONE), (1, 2, ONE), (0, 2, ONE)])
        desk = Desk(web)
        for one, other in NO_POINTS + ((0, 3), (3, 1), (2, 3)):
            for weight in (ONE, (0, 1), None, [1, 1], (2, 2)):
                self.refused(desk, NoTie, "change", one, other, weight)
            self.refused(desk, NoTie, "take", one, other)
        for one, other in NO_POINTS + ((0, 1), (1, 0), (2, 1), (0, 2)):
            for weight in (ONE, (0, 1), None, [1, 1], (2, 2)):
                self.refused(desk, NoTie, "put", one, other, weight)
        for thing in STRANGE:
            if repr(thing) != "3":
                for one, other in ((thing, 3), (3, thing), (thing, thing)):
                    self.refused(desk, NoTie, "change", one, other, ONE)
                    self.refused(desk, NoTie, "take", one, other)
                for one, other in ((thing, 0), (0, thing), (thing, thing)):
                    if repr(thing) not in ("1", "2"):
                        self.refused(desk, NoTie, "put", one, other, ONE)
        self.refused(desk, NoDeed, "undo")

    def test_no_weight(self):
        web = made_web(4, [(0, 1, ONE), (1, 2, ONE), (0, 2, ONE)])
        desk = Desk(web)
        for weight in NO_WEIGHTS:
            self.refused(desk, NoWeight, "change", 0, 1, weight)
            self.refused(desk, NoWeight, "change", 2, 1, weight)
            self.refused(desk, NoWeight, "put", 0, 3, weight)
            self.refused(desk, NoWeight, "put", 3, 1, weight)
        self.refused(desk, NoDeed, "undo")

    def test_a_refused_deed_is_none(self):
        desk = Desk(whole_web(4))
        self.deed(desk, "change", 0, 1, (2, 1))
        for name, arguments in (("change", (0, 4, ONE)), ("change", (0, 1, None)), ("put", (0, 1, ONE)), ("take", (1, 1))):
            self.refused(desk, CutError, name, *arguments)
        self.assertEqual(desk.undo(), 0)
        self.assertEqual(desk.standing()[0], whole_web(4))
        self.refused(desk, NoDeed, "undo")
        self.refused(desk, NoDeed, "undo")

    def test_one_point(self):
        desk = Desk(made_web(1, []))
        self.assertEqual(repr(desk.standing()), "((1, ()), (0,), ('rings', ()))")
        self.refused(desk, NoTie, "put", 0, 0, ONE)
        self.refused(desk, NoTie, "put", 0, 1, ONE)
        self.refused(desk, NoTie, "change", 0, 0, ONE)
        self.refused(desk, NoTie, "take", 0, 0)
        self.refused(desk, NoDeed, "undo")

    def test_a_tie_taken_is_no_tie(self):
        desk = Desk(whole_web(4))
        self.deed(desk, "take", 1, 2)
        self.refused(desk, NoTie, "take", 1, 2)
        self.refused(desk, NoTie, "change", 2, 1, ONE)
        self.deed(desk, "put", 2, 1, ONE)
        self.refused(desk, NoTie, "put", 1, 2, ONE)


class TestUndo(Desks):
    def test_all_the_way_back(self):
        for seed in range(12):
            chance = Random(seed)
            many = 3 + seed % 5
            desk = Desk(random_web(many, 8, seed))
            states = [repr(desk.standing())]
            for k in range(15):
                self.random_deed(desk, chance, random_fraction)
                states.append(repr(desk.standing()))
            for left in range(14, -1, -1):
                self.assertEqual(repr(desk.undo()), repr(left))
                self.assertEqual(repr(desk.standing()), states[left])
                self.assertIs(meets(desk.standing()[0], [], *desk.standing()[1:]), True)
            self.refused(desk, NoDeed, "undo")

    def test_deeds_behind_undos(self):
        for seed in range(12):
            chance = Random(seed)
            desk = Desk(random_web(3 + seed % 5, 8, seed))
            states = [repr(desk.standing())]
            for k in range(40):
                if chance.random() < 0.4:
                    if len(states) == 1:
                        self.refused(desk, NoDeed, "undo")
                    else:
                        states.pop()
                        self.assertEqual(repr(desk.undo()), repr(len(states) - 1))
                        self.assertEqual(repr(desk.standing()), states[-1])
                else:
                    self.random_deed(desk, chance, random_fraction)
                    states.append(repr(desk.standing()))

    def test_the_side_and_the_paper_that_were(self):
        # A deed and its opposite may leave another side; an undo leaves the one that was.
        for seed in range(20):
            desk = Desk(whole_web(5))
            chance = Random(seed)
            ahead = repr(desk.standing())
            one, other = chance.sample(range(5), 2)
            self.deed(desk, "change", one, other, (9, 1))
            self.deed(desk, "change", one, other, ONE)
            self.deed(desk, "take", one, other)
            self.assertEqual([desk.undo(), desk.undo(), desk.undo()], [2, 1, 0])
            self.assertEqual(repr(desk.standing()), ahead)


class TestSeveralDesks(Desks):
    def test_two_desks(self):
        web = random_web(6, 10, 4)
        first, second = Desk(web), Desk(web)
        chance = Random(8)
        self.random_deed(first, chance, random_fraction)
        self.assertEqual(second.standing()[0], web)
        self.refused(second, NoDeed, "undo")
        ahead = repr(first.standing())
        for k in range(10):
            self.random_deed(second, chance, random_fraction)
            self.assertEqual(repr(first.standing()), ahead)
        self.assertEqual(first.undo(), 0)
        self.assertEqual(second.undo(), 9)

    def test_the_same_deeds(self):
        web = random_web(7, 12, 5)
        first, second = Desk(web), Desk(web)
        for seed in range(20):
            answers = [self.random_deed(desk, Random(seed), random_fraction) for desk in (first, second)]
            self.assertEqual(answers[0], answers[1])
            self.assertEqual(repr(first.standing()), repr(second.standing()))
            if seed % 4 == 3:
                self.assertEqual(first.undo(), second.undo())

    def test_a_desk_of_what_stands_at_another(self):
        first = Desk(random_web(7, 12, 6))
        self.random_deed(first, Random(1), random_fraction)
        second = Desk(first.standing()[0])
        self.assertEqual(second.standing()[0], first.standing()[0])
        self.refused(second, NoDeed, "undo")

    def test_what_was_told_earlier(self):
        desk = Desk(random_web(6, 10, 7))
        chance = Random(3)
        told = [(desk.standing(), repr(desk.standing()))]
        for k in range(20):
            self.random_deed(desk, chance, random_fraction)
            told.append((desk.standing(), repr(desk.standing())))
        while desk.undo():
            pass
        for state, shown in told:
            self.assertEqual(repr(state), shown)
        self.assertEqual(repr(desk.standing()), told[0][1])
        self.assertEqual(as_number(bound_of(desk.standing()[0], [], desk.standing()[2])), number_of(*desk.standing()[:2]))


if __name__ == "__main__":
    unittest.main()
