"""Webs whose points are called otherwise, with sides and ring papers led over."""

from heavycut.errors import NoPaper
from heavycut.ringpapers import ring_bound
from heavycut.sides import made_side
from heavycut.webs import made_web, tie_number


def renamed(web, names):
    """Answer the web in which each point k is called names[k]."""
    return made_web(web[0], [(names[one], names[other], weight) for one, other, weight in web[1]])


def renamed_side(web, names, side):
    """Answer the side of the renamed web that parts the same points."""
    bits = list(side)
    for point, bit in enumerate(side):
        bits[names[point]] = bit
    return made_side(web, bits)


def with_numbers(paper, numbers):
    """Answer a paper of cases and rings in which each tie has the number that stands at its own in the numbers."""
    if paper[0] == "cases":
        name, one, other, together, apart = paper
        return (name, one, other, with_numbers(together, numbers), with_numbers(apart, numbers))
    return ("rings", tuple([(tuple(sorted([numbers[tie] for tie in ring])), share) for ring, share in paper[1]]))


def renamed_paper(web, names, paper):
    """Answer the ring paper for the renamed web that a ring paper for the web is led over to."""
    if ring_bound(web, (), paper) is None:
        raise NoPaper("this is no ring paper for the web without wishes")
    named = renamed(web, names)
    return with_numbers(paper, [tie_number(named, names[one], names[other]) for one, other, weight in web[1]])
