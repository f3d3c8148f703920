"""Fractions: tuples (top, bottom) in lowest terms, with a bottom from 1 on."""

from heavycut.helper import is_whole


def common_divisor(one, other):
    """Answer the greatest common divisor of two ints, 0 for two zeros."""
    one, other = abs(one), abs(other)
    while other != 0:
        one, other = other, one % other
    return one


def is_fraction(thing):
    """Tell whether thing, which may be anything, is a fraction."""
    if not isinstance(thing, tuple) or len(thing) != 2:
        return False
    top, bottom = thing
    if not is_whole(top) or not is_whole(bottom):
        return False
    return bottom >= 1 and common_divisor(top, bottom) == 1


def as_fraction(top, bottom):
    """Answer the fraction of two ints; the bottom is not 0."""
    divisor = common_divisor(top, bottom)
    if bottom < 0:
        divisor = -divisor
    return (top // divisor, bottom // divisor)


def plus(one, other):
    """Answer the sum of two fractions."""
    return as_fraction(one[0] * other[1] + other[0] * one[1], one[1] * other[1])


def minus(one, other):
    """Answer the first fraction less the second one."""
    return as_fraction(one[0] * other[1] - other[0] * one[1], one[1] * other[1])


def times(one, other):
    """Answer the product of two fractions."""
    return as_fraction(one[0] * other[0], one[1] * other[1])


def less(one, other):
    """Tell whether the first fraction is less than the second one."""
    return one[0] * other[1] < other[0] * one[1]


def added(terms):
    """Answer the sum of all fractions of a list or tuple."""
    sums = list(terms)
    # Halves are added to halves, so that few sums have great bottoms.
    while len(sums) > 1:
        alone = sums[-1:] if len(sums) % 2 == 1 else []
        sums = [plus(one, other) for one, other in zip(sums[::2], sums[1::2])] + alone
    return sums[0] if sums else (0, 1)


def common_bottom(terms):
    """Answer the least int from 1 on that all bottoms of a list or tuple of fractions divide."""
    common = 1
    for top, bottom in terms:
        common = common // common_divisor(common, bottom) * bottom
    return common
