"""Rings of a web, and what rings decide: whether points can be parted as asked.

A join is a triple (one, other, apart) of two points and 0 or 1, whether they are
to be on one part or on two. Wishes are joins; a tie that is to be cut is one, too.
"""

from heavycut.helper import is_rising_choice


def has_even_ends(many, pairs):
    """Tell whether each of so many points is an end of an even number of the pairs."""
    odd = [0] * many
    for one, other in pairs:
        odd[one] ^= 1
        odd[other] ^= 1
    return 1 not in odd


def is_ring_of(many, joins, thing):
    """Tell whether thing, which may be anything, is a ring of these joins (or ties) of so many points."""
    if not is_rising_choice(len(joins), thing):
        return False
    return has_even_ends(many, [joins[number][:2] for number in thing])


def is_ring(web, thing):
    """Tell whether thing, which may be anything, is a ring of the web."""
    return is_ring_of(web[0], web[1], thing)


def joins_at(many, joins):
    """Answer, for each point, the list of (number, other end, apart) of the joins that end there."""
    near = [[] for point in range(many)]
    for number, (one, other, apart) in enumerate(joins):
        near[one].append((number, other, apart))
        near[other].append((number, one, apart))
    return near


def group_from(near, first):
    """Answer a dict of all points joined to the first: for each its mark, and the joins that lead to it."""
    found = {first: (0, ())}
    waiting = [first]
    while waiting:
        # The points that wait longest go first, so that each way has as few joins as may be.
        point = waiting.pop(0)
        mark, way = found[point]
        for number, other, apart in near[point]:
            if other not in found:
                found[other] = (mark ^ apart, way + (number,))
                waiting.append(other)
    return found


def spread(many, joins):
    """Answer dicts (groups, marks, ways) of all points: ways are the joins from a group's first point to each."""
    near = joins_at(many, joins)
    groups, marks, ways = {}, {}, {}
    count = 0
    for first in range(many):
        if first not in groups:
            for point, (mark, way) in group_from(near, first).items():
                groups[point], marks[point], ways[point] = count, mark, way
            count += 1
    return (groups, marks, ways)


def ring_closed(way, other_way, number):
    """Answer the ring of two ways from one first point and the join between their ends."""
    # What both ways have in common leads to and fro, and drops out.
    alone = [step for step in way if step not in other_way]
    other_alone = [step for step in other_way if step not in way]
    return tuple(sorted(alone + other_alone + [number]))


def odd_rings(joins, marks, ways):
    """Answer a list of odd rings: for each join that the marks do not keep the one that it closes."""
    rings = []
    for number, (one, other, apart) in enumerate(joins):
        if (marks[one] ^ marks[other]) != apart:
            rings.append(ring_closed(ways[one], ways[other], number))
    return rings


def parted(many, joins):
    """Answer ("groups", groups, marks) of the joins, or ("ring", ring) with a ring that is odd and short.

    A ring is odd if an odd number of its joins say apart.
    """
    groups, marks, ways = spread(many, joins)
    rings = odd_rings(joins, marks, ways)
    if rings:
        return ("ring", min(rings, key=len))
    return ("groups", tuple([groups[point] for point in range(many)]), tuple([marks[point] for point in range(many)]))


def two_sided(web):
    """Answer ("side", side) with a side that cuts all ties, or ("ring", ring) with a ring of an odd number of ties."""
    answer = parted(web[0], [(one, other, 1) for one, other, weight in web[1]])
    if answer[0] == "ring":
        return answer
    return ("side", answer[2])
