"""Papers of all kinds for small webs that several tests need."""

from fractions import Fraction
from random import Random

from heavycut.turns import odd_faces
from samples import (
    DEEP_LIST, DEEP_TUPLE, STRANGE, as_number, as_pair, distances_between, kept_sides, lost_by, odd_rounds, other_lengths,
    packed_rows, ring_web, sample_webs, strange_places, top_number, wrong_kinds,
)


def lost_alone(web, side):
    """Answer the ring paper of all ties that a side loses, for wishes that only this side keeps."""
    lost = [tie for tie in lost_by(web, side) if web[1][tie][2][0] != 0]
    return ("rings", tuple([((tie,), as_pair(abs(as_number(web[1][tie][2])))) for tie in lost]))


def all_parted(web, wishes):
    """Answer a paper that parts all groups, and whose bound so is the most that a side weighs."""
    sides = kept_sides(web[0], wishes)
    if len(sides) == 1:
        return lost_alone(web, sides[0])
    for other in range(1, web[0]):
        if len({side[other] for side in sides}) > 1:
            wish = (0, other)
            return ("cases", *wish, all_parted(web, wishes + [wish + (0,)]), all_parted(web, wishes + [wish + (1,)]))
    raise AssertionError("two sides are equal")


def random_cases(web, wishes, seed, depth):
    """Answer a paper of some cases with some rings at their ends, and its bound."""
    chance = Random(seed)
    sides = kept_sides(web[0], wishes)
    pairs = [(a, b) for a in range(web[0]) for b in range(a + 1, web[0]) if len({side[a] ^ side[b] for side in sides}) > 1]
    if depth == 0 or not pairs:
        rows = packed_rows(web, odd_rounds(web, wishes), seed)
        return ("rings", rows), top_number(web) - sum([as_number(share) for ring, share in rows])
    one, other = chance.choice(pairs)
    together, bound = random_cases(web, wishes + [(one, other, 0)], 2 * seed + 1, depth - 1)
    apart, other_bound = random_cases(web, wishes + [(one, other, 1)], 2 * seed + 2, chance.randrange(depth))
    return ("cases", one, other, together, apart), max(bound, other_bound)


def made_labels(web, turns, beyond):
    """Answer the rows of the odd faces with their distances, and what stands beyond where no ties lead."""
    table = distances_between(web, turns)
    return tuple([tuple([as_pair(beyond if far is None else far) for far in table[face]])
                  for face in odd_faces(web, turns)])


def random_paper(web, turns, seed):
    """Answer a face paper with random groups and prices of any sign, some of them as great as the labels allow."""
    chance = Random(seed)
    odd = odd_faces(web, turns)
    many = len(odd)
    labels = made_labels(web, turns, chance.choice((-3, 0, 100)))
    groups = []
    for k in range(chance.randrange(3) if many >= 4 else 0):
        some = sorted(chance.sample(range(many), chance.choice([n for n in range(3, many + 1) if n % 2 == 1])))
        groups.append((tuple(some), as_pair(Fraction(chance.randrange(1, 9), 4))))
    prices = [Fraction(chance.randrange(-9, 9), 2) for face in odd]
    for one in range(many):
        limits = []
        for other in range(many):
            if other != one:
                shares = sum([as_number(share) for some, share in groups if (one in some) != (other in some)], Fraction(0))
                label = labels[min(one, other)][odd[max(one, other)]]
                limits.append(as_number(label) - shares - prices[other])
        if limits:
            prices[one] = min(limits)
    return ("faces", turns, labels, tuple([as_pair(price) for price in prices]), tuple(groups))


TRIANGLE = ring_web(3, [0, 1, 2])
NO_ROWS = ("rings", ())
RING = ("rings", (((0, 1, 2), (1, 1)),))
CASES = ("cases", 0, 1, ("rings", (((0,), (1, 1)),)), ("rings", (((1, 2), (1, 2)),)))
FACES = ("faces", ((1, 2), (0, 2), (0, 1)), (((0, 1), (1, 1)), ((1, 1), (0, 1))), ((1, 2), (1, 2)), ())

# None of these is a paper of any kind for the triangle, of whatever wishes.
NO_PAPERS = STRANGE + (
    (), [], "rings", ("rings",), ("rings", None), ("rings", []), ["rings", ()], ("rings", (), ()), ("Rings", ()), ("papers", ()),
    (NO_ROWS,), (NO_ROWS, NO_ROWS), ("rings", NO_ROWS), {"rings": ()}, ("rings", (((0, 1, 2), (0, 1)),)),
    ("rings", (((0, 1, 2), (1001, 1000)),)), ("rings", (((0, 1, 3), (1, 1)),)), ("rings", (((2, 1, 0), (1, 1)),)),
    ("rings", (([0, 1, 2], (1, 1)),)), ("rings", [((0, 1, 2), (1, 1))]), ("rings", (((0, 1, 2), (2, 2)),)),
    ("rings", (((), (1, 1)),)), ("rings", DEEP_TUPLE), ("cases",), ("cases", 0, 1, NO_ROWS), ("cases", 0, 3, NO_ROWS, NO_ROWS),
    ("cases", 1, 0, NO_ROWS, NO_ROWS), ("cases", 0, 0, NO_ROWS, NO_ROWS), ("cases", False, 1, NO_ROWS, NO_ROWS),
    ("cases", 0, 1, None, NO_ROWS), ("cases", 0, 1, NO_ROWS, CASES[3]), ("cases", 0, 1, CASES[4], CASES[3]),
    ("cases", 0, 1, FACES, NO_ROWS), ("cases", 0, 1, NO_ROWS, FACES), ("cases", 0, 1, ("cases", 0, 1, NO_ROWS, NO_ROWS), NO_ROWS),
    ["cases", 0, 1, NO_ROWS, NO_ROWS], ("cases", 0, 1, NO_ROWS, NO_ROWS, NO_ROWS), ("faces",), FACES[:4], list(FACES),
    FACES + ((),), FACES[:3] + (((1, 1), (1, 2)), ()), FACES[:4] + ([],), ("faces", DEEP_TUPLE, (), (), ()),
    ("cases", 0, 1, DEEP_TUPLE, DEEP_LIST),
)


def no_papers_about(paper):
    """Answer things that are close to a paper, most of them none: other kinds, lengths and strange things in it."""
    return wrong_kinds(paper) + other_lengths(paper) + strange_places(paper)


def ring_paper(web, seed):
    """Answer some ring paper for a small web without wishes."""
    return ("rings", packed_rows(web, odd_rounds(web, []), seed))


def small_webs():
    """Answer webs for which all odd rings are soon found, and which have points to part."""
    return [web for web in sample_webs() if web[0] > 1 and len(web[1]) <= 8]
