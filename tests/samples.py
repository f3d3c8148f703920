"""Webs, sides and things of all kinds that several tests need."""

import copy
from fractions import Fraction
from itertools import product
from random import Random

from heavycut.webs import made_web

DEEP_TUPLE = (1,)
DEEP_LIST = [1]
for depth in range(78):
    DEEP_TUPLE = (DEEP_TUPLE,)
    DEEP_LIST = [DEEP_LIST]

# Each of these is no fraction, no web's ties, no side of a web of two points or
# more, no ring and no odd ring; as wishes only the empty ones are any.
STRANGE = (
    None, True, False, 0, 1, 2, -1, 10 ** 999, -(10 ** 999), 0.0, 1.0, 0.5, float("nan"), float("inf"), 1j,
    "", "0", "1", "01", "ab", "0-1=1", "a\nb", b"", b"\x00\x01", b"01", bytearray(b"\x00\x01"),
    {}, {0: 1}, {0: 1, 1: 0}, {0: 0, 1: 1, 2: 2}, {(0, 1): 1}, set(), {0, 1}, {0, 1, 2}, frozenset((0, 1)),
    range(0), range(2), range(3), slice(0, 1), len, int, tuple, object(), Ellipsis, NotImplemented,
    DEEP_TUPLE, DEEP_LIST, (None,), [None], (True,), (False,), (0.0,), ("0",), ("",), ([0],), ({},),
    (None, None), (True, True), (0.0, 1.0), ("0", "1"), ([0], [1]), ({}, {}), (None, None, None),
    (float("nan"), 0), ((0, 1), (1, 2)), ({0}, {1}), ("a", 0, 1), (0, "a", 1),
)


def as_number(fraction):
    """Answer the Fraction of Python's own that a fraction is."""
    return Fraction(fraction[0], fraction[1])


def all_sides(many):
    """Answer all sides of so many points."""
    return [(0,) + bits for bits in product((0, 1), repeat=many - 1)]


def random_fraction(chance):
    """Answer a small fraction, of any sign or 0."""
    number = Fraction(chance.randrange(-6, 7), chance.randrange(1, 5))
    return (number.numerator, number.denominator)


def random_web(many, most_ties, seed):
    """Answer a web that hangs on its arguments alone."""
    chance = Random(seed)
    pairs = [(one, other) for one in range(many) for other in range(one + 1, many)]
    chance.shuffle(pairs)
    return made_web(many, [(one, other, random_fraction(chance)) for one, other in pairs[:most_ties]])


def ring_web(many, points):
    """Answer a web of so many points with ties round through these points, each of weight 1."""
    ends = points[1:] + points[:1]
    return made_web(many, [(one, other, (1, 1)) for one, other in zip(points, ends)])


def sample_webs():
    """Answer some small webs: without ties, with weights of 0, in one part and in several."""
    return [
        made_web(1, []),
        made_web(2, []),
        made_web(2, [(0, 1, (0, 1))]),
        made_web(2, [(0, 1, (-7, 3))]),
        made_web(3, [(0, 1, (1, 1)), (1, 2, (1, 2)), (0, 2, (0, 1))]),
        made_web(4, [(0, 1, (3, 1)), (0, 3, (-1, 2)), (2, 3, (0, 1))]),
        made_web(4, [(0, 1, (1000000000, 1)), (2, 3, (-1000000000, 999))]),
        ring_web(7, [0, 2, 4, 5, 3]),
        ring_web(6, [1, 2, 4, 5]),
        made_web(7, [(0, 1, (1, 1)), (1, 2, (1, 1)), (0, 2, (2, 1)), (4, 5, (1, 1)), (5, 6, (3, 7)), (4, 6, (-1, 1))]),
        made_web(5, [(0, 1, (1, 1)), (1, 2, (1, 1)), (0, 2, (2, 1)), (2, 3, (1, 1)), (3, 4, (3, 7)), (2, 4, (-1, 1))]),
    ] + [random_web(many, many + 2, many) for many in range(3, 9)]


def check_repeated(case, function, *arguments):
    """Check that a call changes no argument and that the same call gives an equal result; answer that."""
    ahead = copy.deepcopy(arguments)
    first = function(*arguments)
    case.assertEqual(arguments, ahead)
    case.assertEqual(repr(arguments), repr(ahead))
    second = function(*arguments)
    case.assertEqual(first, second)
    case.assertEqual(repr(first), repr(second))
    return first
