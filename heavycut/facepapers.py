"""Face papers: how far the odd faces of some turns are from each other, and prices for that."""

from heavycut.fractions import added, is_fraction, less, minus, plus
from heavycut.helper import is_named, is_rising_choice
from heavycut.ringpapers import is_share
from heavycut.turns import are_turns, beside, faces_of, odd_faces
from heavycut.webs import size_of, top_of


def are_fractions(many, thing):
    """Tell whether thing, which may be anything, is a tuple of so many fractions."""
    if not isinstance(thing, tuple) or len(thing) != many:
        return False
    return all([is_fraction(term) for term in thing])


def is_label_row(web, pairs, many, face, thing):
    """Tell whether thing, which may be anything, is a row of labels of so many faces for this face.

    The pairs are those of the faces that the ties lie between.
    """
    if not are_fractions(many, thing) or thing[face] != (0, 1):
        return False
    for tie, (one, other) in enumerate(pairs):
        size = size_of(web, tie)
        if less(plus(thing[one], size), thing[other]) or less(plus(thing[other], size), thing[one]):
            return False
    return True


def are_labels(web, turns, thing):
    """Tell whether thing, which may be anything, is a tuple of a row of labels for each odd face."""
    odd = odd_faces(web, turns)
    if not isinstance(thing, tuple) or len(thing) != len(odd):
        return False
    pairs = beside(web, turns)
    many = len(faces_of(web, turns))
    return all([is_label_row(web, pairs, many, face, row) for face, row in zip(odd, thing)])


def is_face_group(many, thing):
    """Tell whether thing, which may be anything, is a pair of some of so many odd faces and a share."""
    if not isinstance(thing, tuple) or len(thing) != 2:
        return False
    some, share = thing
    if not is_rising_choice(many, some) or len(some) < 3 or len(some) % 2 == 0:
        return False
    return is_share(share)


def are_face_groups(many, thing):
    """Tell whether thing, which may be anything, is a tuple of pairs of odd faces and shares."""
    return isinstance(thing, tuple) and all([is_face_group(many, pair) for pair in thing])


def fit_labels(odd, labels, prices, groups):
    """Tell whether for each two odd faces their prices and the shares between them are at most their label."""
    many = len(odd)
    holds = [[number in some for number in range(many)] for some, share in groups]
    for one in range(many):
        for other in range(one + 1, many):
            shares = [pair[1] for pair, held in zip(groups, holds) if held[one] != held[other]]
            if less(labels[one][odd[other]], added([prices[one], prices[other]] + shares)):
                return False
    return True


def face_bound(web, paper):
    """Answer the bound that a face paper tells, or None for anything that is none."""
    if not is_named("faces", 5, paper) or not are_turns(web, paper[1]):
        return None
    name, turns, labels, prices, groups = paper
    odd = odd_faces(web, turns)
    if not are_labels(web, turns, labels) or not are_fractions(len(odd), prices):
        return None
    if not are_face_groups(len(odd), groups) or not fit_labels(odd, labels, prices, groups):
        return None
    return minus(top_of(web), added(list(prices) + [share for some, share in groups]))
