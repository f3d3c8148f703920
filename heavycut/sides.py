"""Sides of a web: tuples of a 0 or a 1 for each point, the first one 0."""

from heavycut.errors import NoSide
from heavycut.fractions import added
from heavycut.helper import is_number_of, is_row
from heavycut.webs import is_gainful


def made_side(web, bits):
    """Answer the side that the bits tell, all of them turned if the first is 1."""
    if not is_row(bits) or len(bits) != web[0]:
        raise NoSide("the bits are no list or tuple of one bit for each point")
    if not all([is_number_of(2, bit) for bit in bits]):
        raise NoSide("a bit is not 0 or 1")
    return tuple([bit ^ bits[0] for bit in bits])


def side_of_bits(web, groups, marks, bits):
    """Answer the side in which the groups whose bit is 1 are turned."""
    return made_side(web, [bits[group] ^ mark for group, mark in zip(groups, marks)])


def is_side(web, thing):
    """Tell whether thing, which may be anything, is a side of the web."""
    if not isinstance(thing, tuple) or len(thing) != web[0] or thing[0] != 0:
        return False
    return all([is_number_of(2, bit) for bit in thing])


def is_cut(web, side, tie):
    """Tell whether the side cuts the tie of this number."""
    one, other, weight = web[1][tie]
    return side[one] != side[other]


def cut_ties(web, side):
    """Answer the numbers of all ties that the side cuts, rising."""
    return tuple([tie for tie in range(len(web[1])) if is_cut(web, side, tie)])


def lost_ties(web, side):
    """Answer the numbers of all ties that the side loses, rising."""
    # A tie of weight 0 is not gainful, so it is lost where it is cut.
    return tuple([tie for tie in range(len(web[1])) if is_cut(web, side, tie) != is_gainful(web, tie)])


def weight_of(web, side):
    """Answer the sum of the weights of all ties that the side cuts."""
    return added([web[1][tie][2] for tie in cut_ties(web, side)])
