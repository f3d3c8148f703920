"""Webs with all weights times a fraction, and papers for them."""

from heavycut.errors import NoPaper, NoShare, TooGreat
from heavycut.firstpapers import rows_times
from heavycut.fractions import times
from heavycut.reader import bound_of
from heavycut.ringpapers import is_share
from heavycut.webs import is_weight


def refuse_no_factor(factor):
    """Refuse anything that is no fraction above 0."""
    if not is_share(factor):
        raise NoShare("the factor is no fraction above 0")


def scaled(web, factor):
    """Answer the web with all weights times the factor."""
    refuse_no_factor(factor)
    ties = [(one, other, times(weight, factor)) for one, other, weight in web[1]]
    if not all([is_weight(weight) for one, other, weight in ties]):
        raise TooGreat("a weight of the scaled web would be too great")
    return (web[0], tuple(ties))


def all_times(terms, factor):
    """Answer the tuple of all fractions of a tuple times the factor."""
    return tuple([times(term, factor) for term in terms])


def paper_times(paper, factor):
    """Answer a paper of any kind with its shares, labels and prices times the factor."""
    if paper[0] == "rings":
        return ("rings", rows_times(paper[1], factor))
    if paper[0] == "cases":
        name, one, other, together, apart = paper
        return (name, one, other, paper_times(together, factor), paper_times(apart, factor))
    name, turns, labels, prices, groups = paper
    rows = tuple([all_times(row, factor) for row in labels])
    return (name, turns, rows, all_times(prices, factor), rows_times(groups, factor))


def scaled_paper(web, paper, factor):
    """Answer the paper for the scaled web that a paper of any kind for the web is scaled to."""
    if bound_of(web, (), paper) is None:
        raise NoPaper("this is no paper for the web without wishes")
    refuse_no_factor(factor)
    return paper_times(paper, factor)
