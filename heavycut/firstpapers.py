"""First ring papers: of one ring, of rings packed one after another, and of two papers mixed."""

from heavycut.errors import NoPaper, NoRing, NoShare
from heavycut.fractions import is_fraction, less, minus, times
from heavycut.packing import Bundle, packed, paper_of
from heavycut.ringpapers import is_odd_round, ring_bound
from heavycut.webs import size_of, whole_scale, whole_sizes
from heavycut.wishes import grouped


def least_size(web, ring):
    """Answer the least size of the ring's ties."""
    least = size_of(web, ring[0])
    for tie in ring:
        size = size_of(web, tie)
        if less(size, least):
            least = size
    return least


def lightest(web, wishes, ring):
    """Answer the paper of this odd ring alone, with the least size of its ties as the share."""
    told = grouped(web, wishes)
    if told[0] == "ring" or not is_odd_round(web, told[1], told[2], ring):
        raise NoRing("this is no odd ring for wishes that can be kept")
    share = least_size(web, ring)
    return ("rings", ((ring, share),) if share[0] > 0 else ())


def first_paper(web, wishes):
    """Answer a ring paper with as many rings as find room one after another, or None for wishes that can't be kept."""
    told = grouped(web, wishes)
    if told[0] == "ring":
        return None
    sizes = whole_sizes(web)
    bundle = Bundle(web, sizes, told[1], told[2])
    # All sizes together are more than rings can come to, so these end where no odd ring is left.
    rings, bits = packed(bundle.many, bundle.nets(), sum(sizes) + 1)
    return paper_of(whole_scale(web), bundle.rows(rings))


def rows_times(rows, part):
    """Answer the rows with their shares times a fraction from 0 on, none if that is 0."""
    return tuple([(ring, times(share, part)) for ring, share in rows if part[0] > 0])


def mixed(web, wishes, one, other, part):
    """Answer the ring paper of all rows of one times the part and of the other times what is left to 1."""
    if ring_bound(web, wishes, one) is None or ring_bound(web, wishes, other) is None:
        raise NoPaper("one of the two is no ring paper for the web and the wishes")
    if not is_fraction(part) or less(part, (0, 1)) or less((1, 1), part):
        raise NoShare("the part is no fraction from 0 to 1")
    return ("rings", rows_times(one[1], part) + rows_times(other[1], minus((1, 1), part)))
