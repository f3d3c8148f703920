"""The reader of papers of all kinds."""

from heavycut.facepapers import face_bound
from heavycut.fractions import less, minus
from heavycut.helper import are_unlike_points, is_named
from heavycut.ringpapers import ring_loss
from heavycut.sides import is_side, weight_of
from heavycut.webs import top_of
from heavycut.wishes import grouped, keeps, with_wish


def parts_groups(web, groups, one, other):
    """Tell whether one and other, which may be anything, are rising points of two groups."""
    return are_unlike_points(web[0], one, other) and one < other and groups[one] != groups[other]


def cases_loss(web, groups, marks, paper):
    """Answer what every side loses by a paper of cases and rings, or None for what is none."""
    if not is_named("cases", 5, paper):
        return ring_loss(web, groups, marks, paper)
    name, one, other, together, apart = paper
    if not parts_groups(web, groups, one, other):
        return None
    losses = []
    for bit, ending in ((0, together), (1, apart)):
        case_groups, case_marks = with_wish(groups, marks, (one, other, bit))
        loss = cases_loss(web, case_groups, case_marks, ending)
        if loss is None:
            return None
        losses.append(loss)
    return losses[1] if less(losses[1], losses[0]) else losses[0]


def bound_of(web, wishes, paper):
    """Answer the bound that a paper of any kind tells, or None for anything that is none for the wishes."""
    told = grouped(web, wishes)
    if told[0] == "ring":
        return None
    if is_named("faces", 5, paper):
        return face_bound(web, paper) if len(wishes) == 0 else None
    loss = cases_loss(web, told[1], told[2], paper)
    return None if loss is None else minus(top_of(web), loss)


def meets(web, wishes, side, paper):
    """Tell whether the side keeps the wishes and weighs as much as the bound of the paper."""
    bound = bound_of(web, wishes, paper)
    if bound is None or not is_side(web, side):
        return False
    return keeps(web, wishes, side) and weight_of(web, side) == bound
