"""Webs: tuples (many, ties) of points and of ties with weights."""

from heavycut.errors import NoWeb
from heavycut.fractions import added, common_bottom, is_fraction
from heavycut.helper import are_unlike_points, is_row, is_triple, is_whole

MOST_POINTS = 60
MOST_TIES = 170
MOST_TOP = 1000000000
MOST_BOTTOM = 1000


def is_weight(thing):
    """Tell whether thing, which may be anything, is a weight that a tie may have."""
    return is_fraction(thing) and abs(thing[0]) <= MOST_TOP and thing[1] <= MOST_BOTTOM


def told_tie(many, thing):
    """Answer the tie that thing tells, its points rising, or None if it tells none."""
    if not is_triple(thing):
        return None
    one, other, weight = thing
    if not are_unlike_points(many, one, other) or not is_weight(weight):
        return None
    return (min(one, other), max(one, other), weight)


def made_web(many, ties):
    """Answer the web of so many points with these ties, told in any order."""
    if not is_whole(many) or not 1 <= many <= MOST_POINTS:
        raise NoWeb("the number of points is no int from 1 to 60")
    if not is_row(ties) or len(ties) > MOST_TIES:
        raise NoWeb("the ties are no list or tuple of at most 170")
    told = [told_tie(many, thing) for thing in ties]
    if None in told:
        raise NoWeb("a tie is not two unlike points of the web and a weight")
    told = sorted(told)
    for tie, following in zip(told, told[1:]):
        if tie[:2] == following[:2]:
            raise NoWeb("two ties have the same two points")
    return (many, tuple(told))


def tie_number(web, one, other):
    """Answer the number of the tie of two points in any order, or None."""
    pair = (min(one, other), max(one, other))
    for number, tie in enumerate(web[1]):
        if tie[:2] == pair:
            return number
    return None


def size_of(web, tie):
    """Answer the weight without its sign of the tie of this number."""
    top, bottom = web[1][tie][2]
    return (abs(top), bottom)


def is_gainful(web, tie):
    """Tell whether the weight of the tie of this number is above 0."""
    return web[1][tie][2][0] > 0


def top_of(web):
    """Answer the sum of the weights of all gainful ties."""
    return added([weight for one, other, weight in web[1] if weight[0] > 0])


def whole_sum(web):
    """Answer the sum of the weights of all ties."""
    return added([weight for one, other, weight in web[1]])


def whole_scale(web):
    """Answer the common bottom of the weights of all ties."""
    return common_bottom([weight for one, other, weight in web[1]])


def whole_weights(web):
    """Answer the weights of all ties times their common bottom, as a list of ints."""
    scale = whole_scale(web)
    return [top * (scale // bottom) for one, other, (top, bottom) in web[1]]


def whole_sizes(web):
    """Answer the sizes of all ties times their common bottom, as a list of ints."""
    return [abs(weight) for weight in whole_weights(web)]
