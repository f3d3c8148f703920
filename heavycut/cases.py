"""Heaviest sides, with papers of cases and rings that none is heavier; and all heaviest sides."""

from heavycut.errors import TooGreat
from heavycut.hands import bettered
from heavycut.packing import Bundle, packed, paper_of
from heavycut.sides import lost_ties, side_of_bits
from heavycut.webs import whole_scale, whole_sizes
from heavycut.wishes import grouped, with_wish

MOST_GROUPS = 16
MOST_GROUPS_FOR_ALL = 10


def whole_loss(web, sizes, side):
    """Answer the sizes, as ints, of all ties that a side loses, added."""
    return sum([sizes[tie] for tie in lost_ties(web, side)])


def net_rows(groups, nets):
    """Answer a row of the nets to each of the groups, for each of them, 0 where there are no ties."""
    return [[nets.get((min(one, other), max(one, other)), 0) for other in groups] for one in groups]


def loss_joined(rows, one, other, sign):
    """Answer what more is sure to be lost if two groups are joined, both turned or none (1) or just one (-1)."""
    doubled = [abs(here) + abs(there) - abs(here + sign * there) for here, there in zip(rows[one], rows[other])]
    return max(0, sign * rows[one][other]) + sum(doubled) // 2


def pair_to_part(groups, nets):
    """Answer two of the groups that lose much, whichever way they are joined."""
    rows = net_rows(groups, nets)
    best, found = [-1, -1], None
    for one in range(len(groups)):
        for other in range(one + 1, len(groups)):
            losses = sorted([loss_joined(rows, one, other, 1), loss_joined(rows, one, other, -1)])
            if losses > best:
                best, found = losses, (groups[one], groups[other])
    return found


class Search:
    """A search for a heaviest side with its paper; it keeps the best side so far and what that loses."""

    def __init__(self, web, side):
        self.web = web
        self.scale = whole_scale(web)
        self.sizes = whole_sizes(web)
        self.side = side
        self.loss = whole_loss(web, self.sizes, side)

    def offer(self, side):
        """Keep a side if it loses less than the best one so far."""
        loss = whole_loss(self.web, self.sizes, side)
        if loss < self.loss:
            self.side, self.loss = side, loss

    def turn_groups(self, groups, marks):
        """Offer the best side so far with each one and each two groups turned, and then bettered by turning more."""
        nets = Bundle(self.web, self.sizes, groups, marks).nets()
        many = max(groups) + 1
        ties = [(one, other, (net, 1)) for (one, other), net in nets.items()]
        for one in range(many):
            for other in range(one, many):
                kicked = [1 if group in (one, other) else 0 for group in range(many)]
                bits = [self.side[groups.index(group)] ^ kicked[group] for group in range(many)]
                turned, points = bettered((many, ties), bits)
                self.offer(side_of_bits(self.web, groups, marks, turned))

    def paper(self, groups, marks):
        """Answer a paper for these groups by which no side loses less than the best one at the end."""
        bundle = Bundle(self.web, self.sizes, groups, marks)
        nets = bundle.nets()
        sure = bundle.sure_loss()
        rings, bits = packed(bundle.many, nets, self.loss - sure)
        if bits is not None:
            self.offer(side_of_bits(self.web, groups, marks, bits))
        if sure + sum([share for pairs, share in rings]) >= self.loss:
            return paper_of(self.scale, bundle.rows(rings))
        return self.paper_of_cases(groups, marks, nets)

    def paper_of_cases(self, groups, marks, nets):
        """Answer a paper that parts two of the groups."""
        pair = pair_to_part(sorted(set(groups)), nets)
        one, other = sorted([groups.index(group) for group in pair])
        endings = []
        for apart in (0, 1):
            joined, turned = with_wish(groups, marks, (one, other, apart))
            endings.append(self.paper(joined, turned))
        return ("cases", one, other, endings[0], endings[1])


def heaviest(web, wishes):
    """Answer ("side", side, paper) with a heaviest side that meets the paper, or ("ring", ring) of the wishes."""
    told = grouped(web, wishes)
    if told[0] == "ring":
        return told
    name, groups, marks = told
    if max(groups) >= MOST_GROUPS:
        raise TooGreat("there are more than 16 groups")
    search = Search(web, marks)
    # The better the side that is there at first, the shorter is the paper.
    ahead = None
    while search.loss != ahead:
        ahead = search.loss
        search.turn_groups(groups, marks)
    ahead = None
    while search.loss != ahead:
        ahead = search.loss
        paper = search.paper(groups, marks)
    return ("side", search.side, paper)


def all_bits(many):
    """Answer all tuples of so many bits, rising."""
    rows = [()]
    for place in range(many):
        rows = [row + (bit,) for row in rows for bit in (0, 1)]
    return rows


def all_heaviest(web, wishes):
    """Answer the list of all sides that keep the wishes and weigh most, rising."""
    told = grouped(web, wishes)
    if told[0] == "ring":
        return []
    name, groups, marks = told
    if max(groups) >= MOST_GROUPS_FOR_ALL:
        raise TooGreat("there are more than 10 groups")
    sizes = whole_sizes(web)
    sides = [side_of_bits(web, groups, marks, (0,) + bits) for bits in all_bits(max(groups))]
    losses = [whole_loss(web, sizes, side) for side in sides]
    least = min(losses)
    return sorted([side for side, loss in zip(sides, losses) if loss == least])
