"""Ring papers: rings of which every side loses a tie, each with a share of its ties' sizes."""

from heavycut.fractions import added, is_fraction, less, minus
from heavycut.helper import is_named, is_rising_choice
from heavycut.rings import has_even_ends
from heavycut.webs import is_gainful, size_of, top_of
from heavycut.wishes import grouped


def is_lost_together(web, marks, tie):
    """Tell whether the tie is lost where its points' groups are both as marked."""
    one, other, weight = web[1][tie]
    return (marks[one] != marks[other]) != is_gainful(web, tie)


def is_odd_round(web, groups, marks, thing):
    """Tell whether thing, which may be anything, is a ring that is odd by these groups and marks."""
    if not is_rising_choice(len(web[1]), thing):
        return False
    ends = [(groups[web[1][tie][0]], groups[web[1][tie][1]]) for tie in thing]
    if not has_even_ends(web[0], ends):
        return False
    return len([tie for tie in thing if is_lost_together(web, marks, tie)]) % 2 == 1


def is_share(thing):
    """Tell whether thing, which may be anything, is a fraction above 0."""
    return is_fraction(thing) and thing[0] > 0


def is_ring_row(web, groups, marks, thing):
    """Tell whether thing, which may be anything, is a pair of an odd ring and a share."""
    if not isinstance(thing, tuple) or len(thing) != 2:
        return False
    return is_odd_round(web, groups, marks, thing[0]) and is_share(thing[1])


def fit_sizes(web, rows):
    """Tell whether for each tie the shares of its rings are at most its size."""
    loads = {}
    for ring, share in rows:
        for tie in ring:
            loads.setdefault(tie, []).append(share)
    return not any([less(size_of(web, tie), added(loads[tie])) for tie in loads])


def ring_loss(web, groups, marks, paper):
    """Answer all shares of a ring paper added, or None for what is none by these groups and marks."""
    if not is_named("rings", 2, paper) or not isinstance(paper[1], tuple):
        return None
    rows = paper[1]
    if not all([is_ring_row(web, groups, marks, row) for row in rows]) or not fit_sizes(web, rows):
        return None
    return added([share for ring, share in rows])


def ring_bound(web, wishes, paper):
    """Answer the bound that a ring paper tells, or None for anything that is none for the wishes."""
    told = grouped(web, wishes)
    if told[0] == "ring":
        return None
    loss = ring_loss(web, told[1], told[2], paper)
    return None if loss is None else minus(top_of(web), loss)
