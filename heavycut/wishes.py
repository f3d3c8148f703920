"""Wishes: which points of a web are to be together on one part, and which apart."""

from heavycut.errors import NoWishes
from heavycut.helper import are_unlike_points, is_number_of, is_row, is_triple
from heavycut.rings import is_ring_of, parted

MOST_WISHES = 120


def is_wish(web, thing):
    """Tell whether thing, which may be anything, is a wish of the web."""
    if not is_triple(thing):
        return False
    one, other, apart = thing
    return are_unlike_points(web[0], one, other) and is_number_of(2, apart)


def made_wishes(web, thing):
    """Answer the wishes of the web that thing tells, as they came, as tuples."""
    if not is_row(thing) or len(thing) > MOST_WISHES:
        raise NoWishes("the wishes are no list or tuple of at most 120")
    if not all([is_wish(web, wish) for wish in thing]):
        raise NoWishes("a wish is not two unlike points of the web and 0 or 1")
    return tuple([tuple(wish) for wish in thing])


def keeps(web, wishes, side):
    """Tell whether the side keeps all wishes."""
    told = made_wishes(web, wishes)
    return all([(side[one] ^ side[other]) == apart for one, other, apart in told])


def is_odd_ring(web, wishes, thing):
    """Tell whether thing, which may be anything, is an odd ring of the wishes."""
    told = made_wishes(web, wishes)
    if not is_ring_of(web[0], told, thing):
        return False
    return sum([told[number][2] for number in thing]) % 2 == 1


def grouped(web, wishes):
    """Answer ("groups", groups, marks) of the wishes, or ("ring", ring) with an odd ring of them."""
    return parted(web[0], made_wishes(web, wishes))


def with_wish(groups, marks, wish):
    """Answer the pair (groups, marks) with one wish more, of points of two groups.

    One group's number falls away, and no mark of the first point's group is turned.
    """
    one, other, apart = wish
    kept, gone = groups[one], groups[other]
    turn = marks[one] ^ marks[other] ^ apart
    joined = tuple([kept if group == gone else group for group in groups])
    turned = tuple([mark ^ turn if group == gone else mark for group, mark in zip(groups, marks)])
    return (joined, turned)
