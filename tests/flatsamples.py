"""Flat webs that several tests need: grown face by face, nets, wheels, triangles by themselves."""

from random import Random

from heavycut.flat import flat_web
from heavycut.turns import faces_of
from heavycut.webs import made_web

ONE = (1, 1)


def corners_of(turns):
    """Answer the faces of turns, each as the list of its darts: the corner at the end of a dart lies in the face."""
    pairs = [(one, other, ONE) for one, row in enumerate(turns) for other in row if one < other]
    return [list(face) for face in faces_of(made_web(len(turns), pairs), tuple([tuple(row) for row in turns]))]


def put_behind(row, before, point):
    """Put a point into a row behind another one."""
    row.insert(row.index(before) + 1, point)


def grow(turns, chance, steps, most):
    """Grow turns, a list of lists, by at most so many ties within their faces: to new points, or across a face."""
    for step in range(steps):
        face = chance.choice(corners_of(turns))
        (before, point), (before_other, other) = chance.choice(face), chance.choice(face)
        if point != other and other not in turns[point]:
            put_behind(turns[point], before, other)
            put_behind(turns[other], before_other, point)
        elif len(turns) < most:
            turns.append([point])
            put_behind(turns[point], before, len(turns) - 1)


def grown_turns(chance, parts, steps, most, lone):
    """Answer turns with so many parts, each of at most so many points, and so many points without ties."""
    rows = [[] for point in range(lone)]
    for part in range(parts):
        turns = [[1], [0]]
        grow(turns, chance, steps, most)
        many = len(rows)
        rows += [[many + point for point in row] for row in turns]
    return rows


def named_anew(turns, chance):
    """Answer turns as a tuple, with the points' names exchanged and each row begun anywhere."""
    names = list(range(len(turns)))
    chance.shuffle(names)
    found = [()] * len(turns)
    for point, row in enumerate(turns):
        first = chance.randrange(len(row)) if row else 0
        found[names[point]] = tuple([names[other] for other in row[first:] + row[:first]])
    return tuple(found)


def flat_with(turns, told):
    """Answer the flat web of these turns; told(number) tells the weights of its ties."""
    pairs = sorted([(one, other) for one, row in enumerate(turns) for other in row if one < other])
    web = made_web(len(turns), [(one, other, told(number)) for number, (one, other) in enumerate(pairs)])
    return flat_web(web, tuple([tuple(row) for row in turns]))


def grown_flat(seed, parts, steps, most, lone, told):
    """Answer a flat web that hangs on its arguments alone; told(chance) tells the weights of its ties."""
    chance = Random(seed)
    turns = named_anew(grown_turns(chance, parts, steps, most, lone), chance)
    return flat_with(turns, lambda number: told(chance))


def wheel(spokes, told=lambda number: ONE):
    """Answer the flat web of a hub, point 0, and so many points round it."""
    rim = [((k - 1) % spokes + 1, (k + 1) % spokes + 1) for k in range(spokes)]
    return flat_with([list(range(1, spokes + 1))] + [[0, before, behind] for before, behind in rim], told)


def triangles(many, told=lambda number: ONE):
    """Answer the flat web of so many triangles by themselves."""
    rows = []
    for first in range(0, 3 * many, 3):
        rows += [[first + 1, first + 2], [first, first + 2], [first, first + 1]]
    return flat_with(rows, told)


def net(wide, high, told):
    """Answer the flat web of a net of squares, so many points wide and high."""
    rows = []
    for point in range(wide * high):
        x, y = point % wide, point // wide
        near = [(x + 1, y), (x, y + 1), (x - 1, y), (x, y - 1)]
        rows.append([wide * b + a for a, b in near if 0 <= a < wide and 0 <= b < high])
    return flat_with(rows, told)
