"""Flat webs: webs with turns as of points and ties in a plane."""

from heavycut.errors import NotFlat
from heavycut.rings import parted
from heavycut.turns import faces_of


def part_of_points(web):
    """Answer, for each point, the number of the part of the web that hangs together with it."""
    name, parts, marks = parted(web[0], [(one, other, 0) for one, other, weight in web[1]])
    return parts


def is_flat(web, faces):
    """Tell whether in each part with ties the points and the faces are two more than the ties."""
    parts = part_of_points(web)
    tied = [parts[one] for one, other, weight in web[1]]
    faced = [parts[face[0][0]] for face in faces]
    for part in tied:
        if parts.count(part) + faced.count(part) != tied.count(part) + 2:
            return False
    return True


def flat_web(web, turns):
    """Answer (web, turns), if the turns are flat ones of the web."""
    if not is_flat(web, faces_of(web, turns)):
        raise NotFlat("these turns of the web are not flat")
    return (web, turns)
