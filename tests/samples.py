"""Webs, sides and things of all kinds that several tests need."""

import copy
from fractions import Fraction
from itertools import product
from random import Random

from heavycut.turns import beside, faces_of
from heavycut.webs import made_web

DEEP_TUPLE = (1,)
DEEP_LIST = [1]
for depth in range(78):
    DEEP_TUPLE = (DEEP_TUPLE,)
    DEEP_LIST = [DEEP_LIST]

# Each of these is no fraction, no web's ties, no side of a web of two points or
# more, no ring and no odd ring; as wishes only the empty ones are any.
STRANGE = (
    None, True, False, 0, 1, 2, -1, 10 ** 999, -(10 ** 999), 0.0, 1.0, 0.5, float("nan"), float("inf"), 1j,
    "", "0", "1", "01", "ab", "0-1=1", "a\nb", b"", b"\x00\x01", b"01", bytearray(b"\x00\x01"),
    {}, {0: 1}, {0: 1, 1: 0}, {0: 0, 1: 1, 2: 2}, {(0, 1): 1}, set(), {0, 1}, {0, 1, 2}, frozenset((0, 1)),
    range(0), range(2), range(3), slice(0, 1), len, int, tuple, object(), Ellipsis, NotImplemented,
    DEEP_TUPLE, DEEP_LIST, (None,), [None], (True,), (False,), (0.0,), ("0",), ("",), ([0],), ({},),
    (None, None), (True, True), (0.0, 1.0), ("0", "1"), ([0], [1]), ({}, {}), (None, None, None),
    (float("nan"), 0), ((0, 1), (1, 2)), ({0}, {1}), ("a", 0, 1), (0, "a", 1),
)


def as_number(fraction):
    """Answer the Fraction of Python's own that a fraction is."""
    return Fraction(fraction[0], fraction[1])


def as_pair(number):
    """Answer the fraction that a Fraction or int of Python's own is."""
    number = Fraction(number)
    return (number.numerator, number.denominator)


def all_sides(many):
    """Answer all sides of so many points."""
    return [(0,) + bits for bits in product((0, 1), repeat=many - 1)]


def random_fraction(chance):
    """Answer a small fraction, of any sign or 0."""
    return as_pair(Fraction(chance.randrange(-6, 7), chance.randrange(1, 5)))


def random_web(many, most_ties, seed):
    """Answer a web that hangs on its arguments alone."""
    chance = Random(seed)
    pairs = [(one, other) for one in range(many) for other in range(one + 1, many)]
    chance.shuffle(pairs)
    return made_web(many, [(one, other, random_fraction(chance)) for one, other in pairs[:most_ties]])


def whole_web(many, weight=(1, 1)):
    """Answer the web of so many points that has all ties, each of this weight."""
    return made_web(many, [(one, other, weight) for one in range(many) for other in range(one + 1, many)])


def ring_web(many, points):
    """Answer a web of so many points with ties round through these points, each of weight 1."""
    ends = points[1:] + points[:1]
    return made_web(many, [(one, other, (1, 1)) for one, other in zip(points, ends)])


def sample_webs():
    """Answer some small webs: without ties, with weights of 0, in one part and in several."""
    return [
        made_web(1, []),
        made_web(2, []),
        made_web(2, [(0, 1, (0, 1))]),
        made_web(2, [(0, 1, (-7, 3))]),
        made_web(3, [(0, 1, (1, 1)), (1, 2, (1, 2)), (0, 2, (0, 1))]),
        made_web(4, [(0, 1, (3, 1)), (0, 3, (-1, 2)), (2, 3, (0, 1))]),
        made_web(4, [(0, 1, (1000000000, 1)), (2, 3, (-1000000000, 999))]),
        ring_web(7, [0, 2, 4, 5, 3]),
        ring_web(6, [1, 2, 4, 5]),
        made_web(7, [(0, 1, (1, 1)), (1, 2, (1, 1)), (0, 2, (2, 1)), (4, 5, (1, 1)), (5, 6, (3, 7)), (4, 6, (-1, 1))]),
        made_web(5, [(0, 1, (1, 1)), (1, 2, (1, 1)), (0, 2, (2, 1)), (2, 3, (1, 1)), (3, 4, (3, 7)), (2, 4, (-1, 1))]),
    ] + [random_web(many, many + 2, many) for many in range(3, 9)]


def random_wishes(many, length, seed):
    """Answer so many wishes of a web of many points, by its arguments alone."""
    chance = Random(seed)
    pairs = [chance.sample(range(many), 2) for k in range(length)]
    return [(one, other, chance.randrange(2)) for one, other in pairs]


def kept_wishes(many, length, seed):
    """Answer so many wishes of a web of two points or more that some side keeps."""
    chance = Random(seed)
    bits = [chance.randrange(2) for point in range(many)]
    pairs = [chance.sample(range(many), 2) for k in range(length)]
    return [(one, other, bits[one] ^ bits[other]) for one, other in pairs]


def is_kept(wish, side):
    """Tell whether a side keeps one wish."""
    return (side[wish[0]] != side[wish[1]]) == (wish[2] == 1)


def kept_sides(many, wishes):
    """Answer all sides of so many points that keep all wishes."""
    return [side for side in all_sides(many) if all(is_kept(wish, side) for wish in wishes)]


def number_of(web, side):
    """Answer the weight of a side as a Fraction of Python's own, counted here."""
    return sum([as_number(weight) for one, other, weight in web[1] if side[one] != side[other]], Fraction(0))


def top_number(web):
    """Answer the top of a web as a Fraction of Python's own, counted here."""
    return sum([as_number(weight) for one, other, weight in web[1] if weight[0] > 0], Fraction(0))


def most_weight(web, wishes):
    """Answer the most that a side weighs that keeps the wishes, by all sides; None if there is none."""
    weights = [number_of(web, side) for side in kept_sides(web[0], wishes)]
    return max(weights) if weights else None


def lost_by(web, side):
    """Answer the numbers of the ties that a side loses, counted here."""
    return [number for number, (one, other, weight) in enumerate(web[1])
            if (side[one] != side[other]) != (weight[0] > 0)]


def odd_rounds(web, wishes):
    """Answer all tuples of ties of which every side that keeps the wishes loses an odd number."""
    rows = [sum([1 << tie for tie in lost_by(web, side)]) for side in kept_sides(web[0], wishes)]
    found = []
    for choice in range(1, 1 << len(web[1])):
        if all(bin(choice & row).count("1") % 2 == 1 for row in rows):
            found.append(tuple([tie for tie in range(len(web[1])) if choice >> tie & 1]))
    return found


def packed_rows(web, rounds, seed, most=6):
    """Answer rows of some of these rounds with shares that the ties' sizes allow."""
    chance = Random(seed)
    left = [abs(as_number(weight)) for one, other, weight in web[1]]
    rows = []
    for ring in [chance.choice(rounds) for k in range(most)] if rounds else []:
        share = min([left[tie] for tie in ring]) * Fraction(chance.randrange(1, 4), 3)
        if share > 0:
            rows.append((ring, as_pair(share)))
            for tie in ring:
                left[tie] -= share
    return tuple(rows)


def random_turns(web, seed):
    """Answer some turns of a web, flat or not."""
    chance = Random(seed)
    rows = [[] for point in range(web[0])]
    for one, other, weight in web[1]:
        rows[one].append(other)
        rows[other].append(one)
    for row in rows:
        chance.shuffle(row)
    return tuple([tuple(row) for row in rows])


def distances_between(web, turns):
    """Answer the table of the least sums of sizes from face to face, None where no ties lead, counted here."""
    many = len(faces_of(web, turns))
    table = [[Fraction(0) if one == other else None for other in range(many)] for one in range(many)]
    pairs = [(abs(as_number(tie[2])), pair) for tie, pair in zip(web[1], beside(web, turns))]
    pairs += [(size, pair[::-1]) for size, pair in pairs]
    for row in table:
        ahead = None
        while ahead != row:
            ahead = list(row)
            for size, (one, other) in pairs:
                if row[one] is not None and (row[other] is None or row[one] + size < row[other]):
                    row[other] = row[one] + size
    return table


def plane_web(wide, weights):
    """Answer a web of rows of squares with slanting ties, and its turns as the points stand in the plane.

    weights(number, kind) tells the weight of each tie: of the level (0), upright (1) and slanting (2) ones.
    """
    pairs = []
    rows = []
    for point in range(wide * wide):
        x, y = point % wide, point // wide
        near = [(x + dx, y + dy) for dx, dy in ((1, 0), (1, 1), (0, 1), (-1, 0), (-1, -1), (0, -1))]
        rows.append(tuple([wide * b + a for a, b in near if 0 <= a < wide and 0 <= b < wide]))
        for kind, (a, b) in ((0, near[0]), (1, near[2]), (2, near[1])):
            if a < wide and b < wide:
                pairs.append((point, wide * b + a, weights(len(pairs), kind)))
    return made_web(wide * wide, pairs), tuple(rows)


def places(thing):
    """Answer the ways to all places of nested tuples, the whole first."""
    found = [()]
    if isinstance(thing, tuple):
        for at, inner in enumerate(thing):
            found += [(at,) + way for way in places(inner)]
    return found


def at_place(thing, way):
    """Answer what stands at a place of nested tuples."""
    for at in way:
        thing = thing[at]
    return thing


def with_other(thing, way, other):
    """Answer nested tuples with another thing at a place."""
    if not way:
        return other
    return thing[:way[0]] + (with_other(thing[way[0]], way[1:], other),) + thing[way[0] + 1:]


def wrong_kinds(thing):
    """Answer nested tuples with a list for a tuple, or True, False or a float for an int, at one place each."""
    found = []
    for way in places(thing):
        inner = at_place(thing, way)
        if isinstance(inner, tuple):
            found.append(with_other(thing, way, list(inner)))
            found.append(with_other(thing, way, {number: each for number, each in enumerate(inner)}))
        elif isinstance(inner, int):
            found.append(with_other(thing, way, float(inner)))
            found.append(with_other(thing, way, str(inner)))
            if inner in (0, 1):
                found.append(with_other(thing, way, bool(inner)))
    return found


def strange_places(thing):
    """Answer nested tuples with each strange thing at each place."""
    return [with_other(thing, way, strange) for way in places(thing) for strange in STRANGE]


def other_lengths(thing):
    """Answer nested tuples with one thing less or more (None, or the last one twice) in one tuple each."""
    found = []
    for way in places(thing):
        inner = at_place(thing, way)
        if isinstance(inner, tuple):
            found += [with_other(thing, way, inner + extra) for extra in ((None,), inner[-1:]) if extra]
            found += [with_other(thing, way, inner[:at] + inner[at + 1:]) for at in range(len(inner))]
    return found


def check_repeated(case, function, *arguments):
    """Check that a call changes no argument and that the same call gives an equal result; answer that."""
    ahead = copy.deepcopy(arguments)
    first = function(*arguments)
    case.assertEqual(arguments, ahead)
    case.assertEqual(repr(arguments), repr(ahead))
    second = function(*arguments)
    case.assertEqual(first, second)
    case.assertEqual(repr(first), repr(second))
    return first
