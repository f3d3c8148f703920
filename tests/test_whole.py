"""Tests over the whole program: what the document says of each part holds of all together."""

import unittest
from random import Random

from flatsamples import grown_flat
from heavycut.cases import all_heaviest, heaviest
from heavycut.desks import Desk
from heavycut.facepapers import face_bound
from heavycut.firstpapers import first_paper, lightest, mixed
from heavycut.flat import flat_web
from heavycut.flatcuts import flat_heaviest
from heavycut.fractions import minus, plus, times
from heavycut.gluing import glued, led_back
from heavycut.hands import bettered, greedy
from heavycut.naming import renamed, renamed_paper, renamed_side
from heavycut.pairing import least_pairing
from heavycut.reader import bound_of, meets
from heavycut.ringpapers import ring_bound
from heavycut.rings import two_sided
from heavycut.scaling import scaled, scaled_paper
from heavycut.sides import cut_ties, lost_ties, made_side, weight_of
from heavycut.switching import switched, switched_paper, switched_side
from heavycut.texts import read_web, show_web
from heavycut.webs import made_web, top_of, whole_sum
from heavycut.wishes import grouped, keeps, made_wishes
from samples import as_number, check_repeated, kept_wishes, most_weight, number_of, random_web, whole_web

TEXTS = (
    "1",
    "4 0-1=3 0-3=-1/2 2-3=0",
    "5 0-1=1 0-2=1 0-3=1 0-4=1 1-2=1 1-3=1 1-4=1 2-3=1 2-4=1 3-4=1",
    "6 0-1=7/3 0-5=-2 1-2=5 1-4=1/2 2-3=1 2-5=3 3-4=-1/7 4-5=2",
    "8 0-1=1 0-7=1 1-2=1 2-3=1 3-4=1 4-5=1 5-6=1 6-7=-1",
    "9 0-1=2 0-2=2 1-2=2 3-4=1/5 3-5=1/5 4-5=1/5 6-7=-3 6-8=4 7-8=5",
)


def lists_in(thing):
    """Answer all lists and dicts that stand in a result."""
    found = [thing] if isinstance(thing, (list, dict)) else []
    if isinstance(thing, (list, tuple)):
        for inner in thing:
            found += lists_in(inner)
    return found


class Whole(unittest.TestCase):
    def led_over(self, web, side, paper, points, names, factor):
        """Check that a side and a paper that meet still do so in webs that are led over."""
        other = switched(web, points)
        led, led_paper = switched_side(web, points, side), switched_paper(web, points, paper)
        self.assertIs(meets(other, (), led, led_paper), True)
        parting = made_side(web, [1 if point in points else 0 for point in range(web[0])])
        self.assertEqual(bound_of(other, (), led_paper), minus(bound_of(web, (), paper), weight_of(web, parting)))
        self.assertEqual(weight_of(other, led), minus(weight_of(web, side), weight_of(web, parting)))
        great, great_paper = scaled(other, factor), scaled_paper(other, led_paper, factor)
        self.assertIs(meets(great, [], led, great_paper), True)
        self.assertEqual(bound_of(great, (), great_paper), times(bound_of(other, (), led_paper), factor))
        self.assertEqual(scaled(great, (factor[1], factor[0])), other)
        called = renamed(great, names)
        self.assertEqual(weight_of(called, renamed_side(great, names, led)), weight_of(great, led))
        self.assertEqual(top_of(called), top_of(great))
        rings = first_paper(great, ())
        self.assertEqual(ring_bound(called, (), renamed_paper(great, names, rings)), ring_bound(great, (), rings))
        if great_paper[0] == "rings":
            self.assertIs(meets(called, [], renamed_side(great, names, led), renamed_paper(great, names, great_paper)), True)

    def heaviest_of(self, web, wishes):
        name, side, paper = heaviest(web, wishes)
        self.assertEqual(name, "side")
        self.assertIs(meets(web, wishes, side, paper), True)
        self.assertIs(keeps(web, wishes, side), True)
        return side, paper

    def check(self, web, seed):
        """Check webs that are read, parted, switched, scaled, renamed and glued."""
        self.assertEqual(read_web(show_web(web)), web)
        self.assertEqual(made_web(*web), web)
        chance = Random(seed)
        side, paper = self.heaviest_of(web, [])
        first = greedy(web)
        better, points = bettered(web, first)
        weights = [as_number(weight_of(web, each)) for each in (first, better, side)]
        self.assertEqual(weights, sorted(weights))
        self.assertGreaterEqual(2 * weights[0], as_number(whole_sum(web)))
        self.assertGreaterEqual(as_number(bound_of(web, [], first_paper(web, []))), weights[2])
        self.assertEqual(bettered(web, side), (side, ()))
        points = chance.sample(range(web[0]), chance.randrange(web[0] + 1))
        names = chance.sample(range(web[0]), web[0])
        self.led_over(web, side, paper, points, names, chance.choice(((1, 3), (2, 1), (5, 4))))
        if web[0] <= 10:
            self.assertIn(side, all_heaviest(web, []))
        if web[0] > 1:
            self.check_glued(web, kept_wishes(web[0], chance.randrange(1, 5), seed))

    def check_glued(self, web, wishes):
        """Check that a heaviest side of the glued web, led back, is a heaviest one that keeps the wishes."""
        other, outside = glued(web, wishes)
        side, paper = self.heaviest_of(other, [])
        led = led_back(web, wishes, side)
        self.assertIs(keeps(web, wishes, led), True)
        self.assertEqual(weight_of(web, led), plus(weight_of(other, side), outside))
        best, wish_paper = self.heaviest_of(web, wishes)
        self.assertEqual(weight_of(web, led), weight_of(web, best))
        self.assertIs(meets(web, wishes, led, wish_paper), True)
        self.assertEqual(bound_of(web, wishes, wish_paper), plus(bound_of(other, [], paper), outside))


class TestWhole(Whole):
    def test_texts(self):
        for seed, text in enumerate(TEXTS):
            for turn in range(5):
                web = read_web(text)
                self.assertEqual(show_web(web), text)
                self.check(web, 5 * seed + turn)

    def test_random_webs(self):
        for seed in range(25):
            many = 1 + seed % 12
            web = random_web(many, 2 * many, seed)
            self.check(web, seed)
            if many <= 9:
                self.assertEqual(number_of(web, heaviest(web, [])[1]), most_weight(web, []))

    def test_flat_webs_and_cases(self):
        for seed in range(15):
            web, turns = grown_flat(seed, 1 + seed % 2, 25, 7, seed % 2, lambda chance: (chance.randrange(-3, 7), 1))
            side, paper = flat_heaviest(flat_web(web, turns))
            other, cases = self.heaviest_of(web, [])
            # Either side meets either paper.
            self.assertIs(meets(web, [], side, cases), True)
            self.assertIs(meets(web, [], other, paper), True)
            self.assertEqual(face_bound(web, paper), bound_of(web, (), cases))
            for factor in ((1, 9), (4, 3)):
                self.assertIs(meets(scaled(web, factor), [], other, scaled_paper(web, paper, factor)), True)
            self.check(web, seed)

    def test_two_sided_webs(self):
        for seed in range(20):
            web = random_web(7, 8, seed)
            gains = made_web(7, [(a, b, (abs(top) + 1, bottom if (abs(top) + 1) % bottom else 1)) for a, b, (top, bottom) in web[1]
                                 if bottom in (1, 2, 3)])
            name, answer = two_sided(gains)
            side, paper = self.heaviest_of(gains, [])
            self.assertEqual(name == "side", weight_of(gains, side) == top_of(gains))
            if name == "side":
                self.assertEqual(weight_of(gains, answer), top_of(gains))
                self.assertEqual(lost_ties(gains, side), ())
                self.assertEqual(cut_ties(gains, side), tuple(range(len(gains[1]))))
            else:
                self.assertLess(as_number(bound_of(gains, [], lightest(gains, [], answer))), as_number(top_of(gains)))

    def test_mixed_papers(self):
        for seed in range(12):
            web = random_web(8, 14, seed)
            wishes = kept_wishes(8, seed % 4, seed)
            paper = first_paper(web, wishes)
            half = mixed(web, wishes, paper, ("rings", ()), (1, 2))
            self.assertEqual(times(plus(bound_of(web, wishes, paper), top_of(web)), (1, 2)), bound_of(web, wishes, half))
            if not wishes:
                names = Random(seed).sample(range(8), 8)
                self.assertEqual(bound_of(renamed(web, names), [], renamed_paper(web, names, half)), bound_of(web, [], half))

    def test_desks(self):
        for seed in range(6):
            web = random_web(7, 12, seed)
            desk = Desk(web)
            for one, other, weight in web[1]:
                desk.change(one, other, times(weight, (2, 3)))
            # Behind all these deeds the desk stands at the scaled web.
            self.assertEqual(desk.standing()[0], scaled(web, (2, 3)))
            now, side, paper = desk.standing()
            self.assertEqual(times(weight_of(web, heaviest(web, [])[1]), (2, 3)), weight_of(now, side))
            self.led_over(now, side, paper, [0, 3], list(range(6, -1, -1)), (3, 2))
            while desk.undo():
                pass
            self.assertEqual(desk.standing(), Desk(web).standing())


class TestSaidOnce(unittest.TestCase):
    def results(self):
        """Answer results of many calls, made of lists where these may be handed in."""
        web = random_web(6, 11, 2)
        wishes = [[0, 1, 1], [2, 3, 0]]
        points, names, bits = [0, 2], [1, 0, 3, 2, 5, 4], [1, 0, 1, 1, 0, 0]
        table = [[(0, 1), (2, 1)], [(2, 1), (0, 1)]]
        ties = [[0, 1, (1, 1)], [2, 1, (3, 1)], (0, 2, (1, 2))]
        handed = [wishes, points, names, bits, table, ties]
        side, paper = heaviest(web, [])[1:]
        rings = first_paper(web, [])
        calls = [
            (made_web, 3, ties), (made_side, web, bits), (made_wishes, web, wishes), (grouped, web, wishes), (keeps, web, wishes, side),
            (heaviest, web, wishes), (all_heaviest, web, wishes), (all_heaviest, web, []), (first_paper, web, wishes),
            (switched, web, points), (switched_side, web, points, side), (switched_paper, web, points, paper),
            (renamed, web, names), (renamed_side, web, names, side), (renamed_paper, web, names, rings), (glued, web, wishes),
            (led_back, web, wishes, (0, 1, 1, 0)), (scaled, web, (2, 1)), (scaled_paper, web, paper, (2, 1)),
            (least_pairing, table), (flat_heaviest, (made_web(3, whole_web(3)[1]), ((1, 2), (0, 2), (0, 1)))),
        ]
        return handed, calls

    def test_no_argument_is_changed(self):
        handed, calls = self.results()
        for function, *arguments in calls:
            check_repeated(self, function, *arguments)

    def test_changed_afterwards(self):
        handed, calls = self.results()
        answers = [function(*arguments) for function, *arguments in calls]
        shown = repr(answers)
        for thing in handed:
            for inner in thing:
                if isinstance(inner, list):
                    inner.reverse()
                    inner.append(None)
            thing.reverse()
            thing.append(None)
        self.assertEqual(repr(answers), shown)

    def test_lists_are_new(self):
        handed, calls = self.results()
        for function, *arguments in calls:
            first, second = function(*arguments), function(*arguments)
            lists = lists_in(first) + lists_in(second)
            self.assertEqual(len({id(each) for each in lists}), len(lists))
            shown = repr(second)
            for each in lists_in(first):
                each.clear()
            self.assertEqual(repr(second), shown)
            self.assertEqual(repr(function(*arguments)), shown)


if __name__ == "__main__":
    unittest.main()
