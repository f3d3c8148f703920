"""Heaviest sides of flat webs, with face papers that none is heavier."""

from heavycut.errors import TooGreat
from heavycut.fractions import added
from heavycut.pairing import least_pairing
from heavycut.rings import parted
from heavycut.turns import odd_faces
from heavycut.ways import distances, way_between
from heavycut.webs import is_gainful

MOST_ODD_FACES = 32


def ties_on_ways(web, turns, pairs):
    """Answer a dict of the ties that an odd number of shortest ways between these pairs of faces have."""
    odd = {}
    for one, other in pairs:
        for tie in way_between(web, turns, one, other):
            if tie in odd:
                del odd[tie]
            else:
                odd[tie] = True
    return odd


def side_that_loses(web, lost):
    """Answer the side that loses just the ties of this dict, of ways that pair all odd faces."""
    joins = []
    for tie, (one, other, weight) in enumerate(web[1]):
        joins.append((one, other, 1 if is_gainful(web, tie) != (tie in lost) else 0))
    name, groups, side = parted(web[0], joins)
    return side


def greatest_label(prices, groups):
    """Answer a fraction that no sum of some of the prices and shares is above."""
    sizes = [(abs(top), bottom) for top, bottom in prices]
    return added(sizes + [share for some, share in groups])


def flat_heaviest(flat):
    """Answer (side, paper) of a flat web: a heaviest side, and a face paper that it meets."""
    web, turns = flat
    odd = odd_faces(web, turns)
    if len(odd) > MOST_ODD_FACES:
        raise TooGreat("there are more than 32 odd faces")
    far = [distances(web, turns, face) for face in odd]
    # In each part of the web that hangs together an even number of faces is odd, so there is a pairing.
    pairs, prices, groups = least_pairing([[row[face] for face in odd] for row in far])
    side = side_that_loses(web, ties_on_ways(web, turns, [(odd[one], odd[other]) for one, other in pairs]))
    # Where no ties lead, a label need only be great enough, and the same all over that part of the web.
    beyond = greatest_label(prices, groups)
    labels = tuple([tuple([beyond if label is None else label for label in row]) for row in far])
    return (side, ("faces", turns, labels, prices, groups))
