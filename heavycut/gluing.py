"""Webs glued by wishes: one point for each group, with sides led back."""

from heavycut.errors import TooGreat
from heavycut.fractions import added
from heavycut.sides import side_of_bits
from heavycut.webs import is_weight, made_web
from heavycut.wishes import grouped


def unlike_weights(web, marks):
    """Answer the list of the weights of all ties whose points have unlike marks."""
    return [weight for one, other, weight in web[1] if marks[one] != marks[other]]


def terms_between(web, groups, marks):
    """Answer, for each two groups with ties, the weights of these, with the opposite sign for unlike marks."""
    terms = {}
    for one, other, (top, bottom) in web[1]:
        pair = (min(groups[one], groups[other]), max(groups[one], groups[other]))
        if pair[0] != pair[1]:
            terms.setdefault(pair, []).append((top if marks[one] == marks[other] else -top, bottom))
    return terms


def glued(web, wishes):
    """Answer (web, outside): the web of the groups, and what stays outside; None for wishes that can't be kept."""
    told = grouped(web, wishes)
    if told[0] == "ring":
        return None
    name, groups, marks = told
    ties = [(one, other, added(terms)) for (one, other), terms in terms_between(web, groups, marks).items()]
    if not all([is_weight(weight) for one, other, weight in ties]):
        raise TooGreat("a weight of the glued web would be too great")
    return (made_web(max(groups) + 1, ties), added(unlike_weights(web, marks)))


def led_back(web, wishes, side):
    """Answer the side of the web that a side of the glued web stands for; None for wishes that can't be kept."""
    told = grouped(web, wishes)
    if told[0] == "ring":
        return None
    return side_of_bits(web, told[1], told[2], side)
