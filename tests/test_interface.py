"""Tests that all names of the interface are there, with their arguments, and that wishes are asked first of all [9]."""

import importlib
import inspect
import unittest

from heavycut import errors
from heavycut.cases import all_heaviest, heaviest
from heavycut.desks import Desk
from heavycut.errors import NoWishes
from heavycut.firstpapers import first_paper, lightest, mixed
from heavycut.gluing import glued, led_back
from heavycut.reader import bound_of, meets
from heavycut.ringpapers import ring_bound
from heavycut.webs import made_web
from heavycut.wishes import grouped, is_odd_ring, keeps, made_wishes
from samples import DEEP_LIST, DEEP_TUPLE, STRANGE, whole_web

FUNCTIONS = {
    "fractions": "is_fraction(thing) as_fraction(top, bottom) plus(one, other) minus(one, other) times(one, other) less(one, other)",
    "webs": "made_web(many, ties) tie_number(web, one, other) size_of(web, tie) is_gainful(web, tie) top_of(web) whole_sum(web)",
    "sides": "made_side(web, bits) weight_of(web, side) cut_ties(web, side) lost_ties(web, side)",
    "texts": "show_web(web) read_web(text)",
    "rings": "is_ring(web, thing) two_sided(web)",
    "wishes": "made_wishes(web, thing) keeps(web, wishes, side) is_odd_ring(web, wishes, thing) grouped(web, wishes)",
    "turns": "are_turns(web, thing) faces_of(web, turns) odd_faces(web, turns) beside(web, turns)",
    "ringpapers": "ring_bound(web, wishes, paper)",
    "facepapers": "face_bound(web, paper)",
    "reader": "bound_of(web, wishes, paper) meets(web, wishes, side, paper)",
    "hands": "greedy(web) bettered(web, side)",
    "firstpapers": "lightest(web, wishes, ring) first_paper(web, wishes) mixed(web, wishes, one, other, part)",
    "cases": "heaviest(web, wishes) all_heaviest(web, wishes)",
    "flat": "flat_web(web, turns)",
    "ways": "distances(web, turns, face) way_between(web, turns, one, other)",
    "pairing": "least_pairing(table)",
    "flatcuts": "flat_heaviest(flat)",
    "switching": "switched(web, points) switched_side(web, points, side) switched_paper(web, points, paper)",
    "naming": "renamed(web, names) renamed_side(web, names, side) renamed_paper(web, names, paper)",
    "gluing": "glued(web, wishes) led_back(web, wishes, side)",
    "scaling": "scaled(web, factor) scaled_paper(web, paper, factor)",
}
METHODS = "change(self, one, other, weight) put(self, one, other, weight) take(self, one, other) standing(self) undo(self)"
ERRORS = "NoWeb NoSide NoText NoWishes NoTurns NotFlat NoRing NoPaper NoShare NoTie NoWeight NoDeed TooGreat"

# Of all functions that take wishes: the function, and whether other arguments stand behind these.
WITH_WISHES = (
    (keeps, 1), (is_odd_ring, 1), (grouped, 0), (ring_bound, 1), (bound_of, 1), (meets, 2), (lightest, 1), (first_paper, 0),
    (mixed, 3), (heaviest, 0), (all_heaviest, 0), (glued, 0), (led_back, 1),
)


def told(text):
    """Answer pairs of a name and its arguments, in parentheses."""
    return [(word.partition("(")[0].strip(), "(" + word.partition("(")[2] + ")") for word in text.split(")") if word]


class TestInterface(unittest.TestCase):
    def test_functions(self):
        for module, text in FUNCTIONS.items():
            for name, arguments in told(text):
                function = getattr(importlib.import_module("heavycut." + module), name)
                self.assertEqual(str(inspect.signature(function)), arguments, name)
                self.assertEqual(function.__module__, "heavycut." + module)

    def test_desks(self):
        self.assertEqual(str(inspect.signature(Desk)), "(web)")
        for name, arguments in told(METHODS):
            self.assertEqual(str(inspect.signature(vars(Desk)[name])), arguments)

    def test_errors(self):
        self.assertEqual(errors.CutError.__bases__, (ValueError,))
        for name in ERRORS.split():
            self.assertEqual(getattr(errors, name).__bases__, (errors.CutError,))


class TestWishesFirst(unittest.TestCase):
    def check(self, web, wishes):
        with self.assertRaises(NoWishes):
            made_wishes(web, wishes)
        for function, many in WITH_WISHES:
            for thing in ((0, 0, 0), (0,), None, "rings", ("rings", ()), (1, 2), DEEP_TUPLE, DEEP_LIST, 10 ** 999, [], {}):
                with self.assertRaises(NoWishes, msg=function.__name__):
                    function(web, wishes, *[thing] * many)

    def test_anything(self):
        for wishes in STRANGE:
            if wishes not in ((), []):
                self.check(whole_web(3), wishes)
        self.check(made_web(1, []), [(0, 1, 0)])

    def test_close_to_wishes(self):
        for wishes in ([(0, 0, 1)], [(0, 3, 0)], [(-1, 0, 1)], [(0, 1, True)], [(True, 0, 1)], [(0, 1)], [(0, 1, 2)], [(0, 1, 0, 0)],
                       [(0, 1, 0)] * 121, ((0, 1, 0), None), ((0, 1, 0), (0, 1, 1), (1, 1, 0)), {(0, 1, 0)}, [{0, 1}], [(0, 1, 0.0)],
                       {0: (0, 1, 0)}, "010", [b"\x00\x01\x00"], [range(3)], ((0, 1, 0),) * 121):
            self.check(whole_web(3), wishes)

    def test_ahead_of_too_great(self):
        for wishes in ([(0, 60, 1)], [(0, 1, 0), (0, 1, 1), (0, 1)], [None]):
            self.check(made_web(60, []), wishes)
            self.check(made_web(3, [(0, 2, (1000000000, 1)), (1, 2, (1000000000, 1))]), wishes)

    def test_wishes_that_are_some(self):
        # All of them take these, so the errors above are of the wishes alone.
        web = whole_web(3)
        for wishes in ([], (), [(0, 1, 1)], ([1, 0, 1],), [(0, 1, 1)] * 120):
            self.assertIs(keeps(web, wishes, (0, 1, 0)), True)
            self.assertIs(is_odd_ring(web, wishes, (0,)), False)
            self.assertEqual(grouped(web, wishes)[0], "groups")
            self.assertEqual(ring_bound(web, wishes, ("rings", ())), (3, 1))
            self.assertEqual(bound_of(web, wishes, ("rings", ())), (3, 1))
            self.assertIs(meets(web, wishes, (0, 1, 0), ("rings", ())), False)
            self.assertEqual(lightest(web, wishes, (0, 1, 2))[0], "rings")
            self.assertEqual(first_paper(web, wishes)[0], "rings")
            self.assertEqual(mixed(web, wishes, ("rings", ()), ("rings", ()), (1, 2)), ("rings", ()))
            self.assertEqual(heaviest(web, wishes)[0], "side")
            self.assertIn((0, 1, 0), all_heaviest(web, wishes))
            self.assertEqual(len(glued(web, wishes)), 2)
            self.assertEqual(led_back(web, wishes, (0, 0, 0))[0], 0)


if __name__ == "__main__":
    unittest.main()
