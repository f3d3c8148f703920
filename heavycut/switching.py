"""Webs switched at some of their points, with sides and papers led over."""

from heavycut.errors import NoPaper
from heavycut.helper import is_named
from heavycut.reader import bound_of
from heavycut.sides import made_side


def leads_out(points, one, other):
    """Tell whether just one of two points is among these points."""
    return (one in points) != (other in points)


def switched(web, points):
    """Answer the web in which the ties between these points and the others have the opposite sign."""
    ties = []
    for one, other, (top, bottom) in web[1]:
        ties.append((one, other, (-top if leads_out(points, one, other) else top, bottom)))
    return (web[0], tuple(ties))


def switched_side(web, points, side):
    """Answer the side with these points turned."""
    return made_side(web, [1 - bit if point in points else bit for point, bit in enumerate(side)])


def with_cases_exchanged(points, paper):
    """Answer a paper of cases and rings with the two papers of each case exchanged that the points tell apart."""
    if paper[0] == "rings":
        # A side and the side led over lose the same ties, so the same rings are odd.
        return paper
    name, one, other, together, apart = paper
    endings = (with_cases_exchanged(points, together), with_cases_exchanged(points, apart))
    return (name, one, other) + (endings[::-1] if leads_out(points, one, other) else endings)


def switched_paper(web, points, paper):
    """Answer the paper for the switched web that a ring or case paper for the web is led over to."""
    if is_named("faces", 5, paper) or bound_of(web, (), paper) is None:
        raise NoPaper("this is no ring or case paper for the web without wishes")
    return with_cases_exchanged(points, paper)
