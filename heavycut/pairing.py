"""Least pairings of the rows of a table, with prices and groups that tell that none is less.

A knot is a row, by its number, or an odd ring of knots that is closed, by a number behind all rows.
Knots have worths, as ints: a row its price, a closed ring the share of its rows as a group. A link is a
pair of rows; it is used up if the knots that have just one of the two are worth its entry. Trees of links
that are used up grow from the knots that are not paired yet; the even knots of a tree gain what its odd
ones lose, till one more link is used up, or an odd ring has nothing left and is opened again.
"""

from heavycut.fractions import as_fraction, common_bottom

# What ends a gain: two even knots meet, an even one reaches a knot in no tree, an odd ring is to be opened.
MEET = 0
REACH = 1
OPEN = 2


def turned(link):
    """Answer a pair of rows the other way round."""
    return (link[1], link[0])


class Forest:
    """Rows that are paired step by step, and only by links that are used up."""

    def __init__(self, many, costs):
        self.many = many
        # For each two rows s < t that may be paired: an even int, so that all worths are ints, too.
        self.costs = costs
        self.worths = {row: 0 for row in range(many)}
        # For each knot in a closed ring that one; and of each closed ring its knots and the links between them.
        self.above = {}
        self.members = {}
        self.links = {}
        self.fresh = many
        # Of outermost knots alone: the link (row in it, row outside) by which it is paired; 0 or 1 if it is an
        # even or an odd knot of a tree; and the link to the knot before it if it is odd.
        self.bonds = {}
        self.parity = {}
        self.stems = {}

    def around(self, row):
        """Answer the knots that have this row, from itself to the outermost one."""
        knots = [row]
        while knots[-1] in self.above:
            knots.append(self.above[knots[-1]])
        return knots

    def outermost(self, row):
        """Answer the outermost knot that has this row."""
        return self.around(row)[-1]

    def free_knots(self):
        """Answer the outermost knots that are not paired, rising."""
        return [knot for knot in sorted(self.worths) if knot not in self.above and knot not in self.bonds]

    def link_ends(self):
        """Answer a list of (gain, kind, row, other row): for each link that can be used up, by what gain it is."""
        knots = [self.around(row) for row in range(self.many)]
        worths = [sum([self.worths[knot] for knot in row]) for row in knots]
        parities = [self.parity.get(row[-1]) for row in knots]
        found = []
        for (one, other), cost in self.costs.items():
            both = (parities[one], parities[other])
            if 0 in both and 1 not in both and knots[one][-1] != knots[other][-1]:
                left = cost - worths[one] - worths[other]
                if both == (0, 0):
                    found.append((left // 2, MEET, one, other))
                elif both[0] == 0:
                    found.append((left, REACH, one, other))
                else:
                    found.append((left, REACH, other, one))
        return found

    def open_ends(self):
        """Answer a list of (gain, kind, knot, knot): for each odd ring in a tree what it has left to lose."""
        return [(self.worths[knot], OPEN, knot, knot) for knot in self.members if self.parity.get(knot) == 1]

    def gain(self, amount):
        """Let all even knots gain so much, and all odd ones lose it."""
        for knot, parity in self.parity.items():
            self.worths[knot] += amount if parity == 0 else -amount

    def pair_two(self):
        """Pair two of the free knots, perhaps others anew; tell whether this can be."""
        self.parity = {knot: 0 for knot in self.free_knots()}
        self.stems = {}
        while True:
            ends = self.link_ends() + self.open_ends()
            if not ends:
                return False
            amount, kind, one, other = min(ends)
            self.gain(amount)
            if kind == OPEN:
                self.open_odd(one)
            elif kind == REACH:
                self.reach(one, other)
            elif self.way_to_root(one)[-1] == self.way_to_root(other)[-1]:
                self.close_ring(one, other)
            else:
                self.bond(one, other)
                self.bond(other, one)
                return True

    def reach(self, row, other):
        """Add the knot of the other row and the one that it is paired with to the tree of the row."""
        knot = self.outermost(other)
        self.parity[knot] = 1
        self.stems[knot] = (other, row)
        self.parity[self.outermost(self.bonds[knot][1])] = 0

    def way_to_root(self, row):
        """Answer pairs of knots, from the even one of the row to the root, and the links to those behind them."""
        knot = self.outermost(row)
        way = []
        while knot in self.bonds:
            link = self.bonds[knot] if self.parity[knot] == 0 else self.stems[knot]
            way.append((knot, link))
            knot = self.outermost(link[1])
        return way + [(knot, None)]

    def bond(self, row, other):
        """Pair the even knot of a row by the link to the other row, and all knots from there to the root anew."""
        way = self.way_to_root(row)
        self.bonds[way[0][0]] = (row, other)
        for odd, even in zip(way[1::2], way[2::2]):
            self.bonds[odd[0]] = odd[1]
            self.bonds[even[0]] = turned(odd[1])

    def close_ring(self, one, other):
        """Close the ring of two rows of even knots of one tree: their ways to where these come together."""
        way, other_way = self.way_to_root(one), self.way_to_root(other)
        while way[-2:-1] == other_way[-2:-1]:
            way.pop()
            other_way.pop()
        base = way.pop()[0]
        other_way.pop()
        members = [base] + [knot for knot, link in way[::-1]] + [knot for knot, link in other_way]
        links = [turned(link) for knot, link in way[::-1]] + [(one, other)] + [link for knot, link in other_way]
        self.put_above(members, links)

    def put_above(self, members, links):
        """Make an even knot of these members; the links lead from each to the one behind it, and then to the first."""
        knot = self.fresh
        self.fresh += 1
        self.members[knot], self.links[knot] = members, links
        self.worths[knot] = 0
        if members[0] in self.bonds:
            self.bonds[knot] = self.bonds[members[0]]
        for member in members:
            self.above[member] = knot
            self.bonds.pop(member, None)
            self.parity.pop(member, None)
            self.stems.pop(member, None)
        self.parity[knot] = 0

    def open_ring(self, knot):
        """Take a paired knot apart; one member keeps its bond, and the others are paired along the ring."""
        members, links = self.members.pop(knot), self.links.pop(knot)
        for member in members:
            del self.above[member]
        del self.worths[knot]
        bond = self.bonds.pop(knot)
        first = members.index(self.outermost(bond[0]))
        self.bonds[members[first]] = bond
        many = len(members)
        for step in range(first + 1, first + many, 2):
            link = links[step % many]
            self.bonds[members[step % many]] = link
            self.bonds[members[(step + 1) % many]] = turned(link)

    def open_odd(self, knot):
        """Take an odd knot of a tree apart; the members from its stem to its bond stay in the tree."""
        members, links, stem = self.members[knot], self.links[knot], self.stems.pop(knot)
        del self.parity[knot]
        self.open_ring(knot)
        many = len(members)
        place = members.index(self.outermost(stem[0]))
        step = 1 if self.outermost(self.bonds[members[place]][1]) == members[(place + 1) % many] else -1
        while True:
            self.parity[members[place]] = 1
            self.stems[members[place]] = stem
            even = self.outermost(self.bonds[members[place]][1])
            self.parity[even] = 0
            if even not in members:
                return
            stem = turned(links[(place + 1) % many]) if step == 1 else links[(place - 2) % many]
            place = (place + 2 * step) % many

    def groups(self):
        """Answer pairs (rows, worth) for all closed rings that are worth something."""
        knots = [self.around(row) for row in range(self.many)]
        worthy = [knot for knot in self.members if self.worths[knot] > 0]
        return [(tuple([row for row in range(self.many) if knot in knots[row]]), self.worths[knot]) for knot in worthy]

    def open_all(self):
        """Take all closed rings apart, so that rows are paired with rows."""
        # A ring has a greater number than its members, so the outermost ones are opened first.
        knots = sorted(self.members, reverse=True)
        for knot in knots:
            self.open_ring(knot)


def whole_costs(table, scale):
    """Answer the entries above the diagonal that are not None, times the scale, by their rows."""
    costs = {}
    for one, row in enumerate(table):
        for other in range(one + 1, len(table)):
            if row[other] is not None:
                top, bottom = row[other]
                costs[(one, other)] = top * (scale // bottom)
    return costs


def least_pairing(table):
    """Answer (pairs, prices, groups) of a least pairing of the table's rows, or None if there is no pairing."""
    many = len(table)
    scale = 2 * common_bottom([entry for row in table for entry in row if entry is not None])
    forest = Forest(many, whole_costs(table, scale))
    while forest.free_knots():
        if not forest.pair_two():
            return None
    prices = tuple([as_fraction(forest.worths[row], scale) for row in range(many)])
    groups = tuple([(rows, as_fraction(worth, scale)) for rows, worth in forest.groups()])
    forest.open_all()
    pairs = tuple([(row, forest.bonds[row][1]) for row in range(many) if row < forest.bonds[row][1]])
    return (pairs, prices, groups)
