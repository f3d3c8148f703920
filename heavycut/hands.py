"""Sides made by hand: a greedy one, and a side bettered point by point."""

from heavycut.sides import made_side
from heavycut.webs import whole_weights


def ties_at(web):
    """Answer, for each point, the list of (other end, weight) of its ties, the weights as ints of one scale."""
    near = [[] for point in range(web[0])]
    for (one, other, weight), whole in zip(web[1], whole_weights(web)):
        near[one].append((other, whole))
        near[other].append((one, whole))
    return near


def greedy(web):
    """Answer the side in which each point, in order, has the bit that cuts more to the points before it."""
    near = ties_at(web)
    bits = []
    for point in range(web[0]):
        before = [(other, weight) for other, weight in near[point] if other < point]
        with_one = sum([weight for other, weight in before if bits[other] == 0])
        with_zero = sum([weight for other, weight in before if bits[other] == 1])
        bits.append(1 if with_one > with_zero else 0)
    return tuple(bits)


def gain_of(near, bits, point):
    """Answer by how much the side would weigh more with this point on the other part."""
    return sum([weight if bits[other] == bits[point] else -weight for other, weight in near[point]])


def bettered(web, side):
    """Answer (side, points): the side at the end of all exchanges, and the points that were turned, in order."""
    near = ties_at(web)
    bits = list(side)
    points = []
    while True:
        gains = [gain_of(near, bits, point) for point in range(web[0])]
        best = max(gains)
        if best <= 0:
            return (made_side(web, bits), tuple(points))
        point = gains.index(best)
        bits[point] ^= 1
        points.append(point)
