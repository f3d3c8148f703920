"""Odd rings packed into the sizes of a web's ties, for groups of points with marks.

Sizes and shares are ints here: those of the ties times the common bottom of their weights.
"""

from heavycut.fractions import as_fraction
from heavycut.ringpapers import is_lost_together
from heavycut.rings import parted


class Bundle:
    """The ties of a web by the groups that they lie between; ties of size 0 are left out."""

    def __init__(self, web, sizes, groups, marks):
        self.many = max(groups) + 1
        self.sizes = sizes
        # Ties within a group that every side loses.
        self.lone = []
        # For each two groups: ties lost where both are turned or none, and ties lost where just one is.
        self.between = {}
        for tie, (one, other, weight) in enumerate(web[1]):
            if sizes[tie] > 0:
                self.place(tie, groups[one], groups[other], is_lost_together(web, marks, tie))
        # For each two groups: what each of the two bunches comes to.
        self.sums = {}
        for pair, (alike, unlike) in self.between.items():
            self.sums[pair] = (self.sum_of(alike), self.sum_of(unlike))

    def place(self, tie, one, other, lost):
        """Put a tie where it belongs, by the groups of its points."""
        if one != other:
            alike, unlike = self.between.setdefault((min(one, other), max(one, other)), ([], []))
            bunch = alike if lost else unlike
            bunch.append(tie)
        elif lost:
            self.lone.append(tie)

    def sum_of(self, ties):
        """Answer the sizes of these ties added."""
        return sum([self.sizes[tie] for tie in ties])

    def nets(self):
        """Answer, for each two groups with ties, what more is lost where both are turned or none than else."""
        return {pair: alike - unlike for pair, (alike, unlike) in self.sums.items()}

    def sure_loss(self):
        """Answer what every side loses: the lone ties, and the lesser bunch between each two groups."""
        return self.sum_of(self.lone) + sum([min(both) for both in self.sums.values()])

    def rows(self, rings):
        """Answer rows (ring, share) for the sure loss, and for these rings of pairs of groups with shares."""
        left = list(self.sizes)
        rows = [((tie,), self.sizes[tie]) for tie in self.lone]
        for pair, both in self.sums.items():
            rows.extend(threaded(left, list(self.between[pair]), min(both)))
        for pairs, share in rings:
            rows.extend(threaded(left, [self.greater_bunch(pair) for pair in pairs], share))
        return rows

    def greater_bunch(self, pair):
        """Answer the one of the two bunches of ties between two groups that comes to more."""
        alike, unlike = self.sums[pair]
        return self.between[pair][0 if alike > unlike else 1]


def first_left(left, ties):
    """Answer the first of the ties of which something is left."""
    for tie in ties:
        if left[tie] > 0:
            return tie
    return None


def threaded(left, bunches, share):
    """Answer rows (ring, share) with a tie of each bunch in each ring; their shares are taken from what is left."""
    rows = []
    while share > 0:
        ring = sorted([first_left(left, ties) for ties in bunches])
        part = min(share, min([left[tie] for tie in ring]))
        for tie in ring:
            left[tie] -= part
        rows.append((tuple(ring), part))
        share -= part
    return rows


def packed(many, nets, enough):
    """Answer (rings, bits) for so many groups and the nets between them.

    The rings are pairs (pairs of groups, share). If they come to enough, the bits are None; else
    they are a tuple of a bit for each group, of a side that loses no net that is not used up.
    """
    left = {pair: abs(net) for pair, net in nets.items() if net != 0}
    rings = []
    missing = enough
    while missing > 0:
        pairs = list(left)
        told = parted(many, [(one, other, 1 if nets[(one, other)] > 0 else 0) for one, other in pairs])
        if told[0] == "groups":
            return (rings, told[2])
        ring = tuple([pairs[number] for number in told[1]])
        share = min([left[pair] for pair in ring])
        for pair in ring:
            left[pair] -= share
        left = {pair: left[pair] for pair in pairs if left[pair] > 0}
        rings.append((ring, share))
        missing -= share
    return (rings, None)


def paper_of(scale, rows):
    """Answer the ring paper of rows whose shares are ints of this scale."""
    return ("rings", tuple([(ring, as_fraction(share, scale)) for ring, share in rows]))
