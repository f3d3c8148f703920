"""Turns of a web: who stands round each point, and the faces that follow from them."""

from heavycut.errors import NoTurns
from heavycut.helper import is_number_of
from heavycut.webs import is_gainful


def neighbours(web):
    """Answer, for each point, the list of the points that it has ties with, rising."""
    near = [[] for point in range(web[0])]
    for one, other, weight in web[1]:
        near[one].append(other)
        near[other].append(one)
    return [sorted(row) for row in near]


def is_round_of(many, near, thing):
    """Tell whether thing, which may be anything, is a tuple of just these of so many points, in any order."""
    if not isinstance(thing, tuple) or not all([is_number_of(many, point) for point in thing]):
        return False
    return sorted(thing) == near


def are_turns(web, thing):
    """Tell whether thing, which may be anything, is turns of the web."""
    if not isinstance(thing, tuple) or len(thing) != web[0]:
        return False
    return all([is_round_of(web[0], near, row) for near, row in zip(neighbours(web), thing)])


def darts_behind(turns):
    """Answer a dict that has, for each dart, the dart that comes behind it."""
    behind = {}
    for point, row in enumerate(turns):
        for place, before in enumerate(row):
            behind[(before, point)] = (point, row[(place + 1) % len(row)])
    return behind


def face_from(behind, first):
    """Answer the round of darts that begins with the first one."""
    face = [first]
    while behind[face[-1]] != first:
        face.append(behind[face[-1]])
    return tuple(face)


def faces_of(web, turns):
    """Answer all faces, each beginning with its least dart, rising by these."""
    if not are_turns(web, turns):
        raise NoTurns("these are no turns of the web")
    behind = darts_behind(turns)
    faces = []
    taken = set()
    # The darts are gone through rising, so each face is met at its least one first.
    for first in sorted(behind):
        if first not in taken:
            face = face_from(behind, first)
            faces.append(face)
            for dart in face:
                taken.add(dart)
    return tuple(faces)


def beside(web, turns):
    """Answer, for each tie (a, b), the pair of the faces that have the darts (a, b) and (b, a)."""
    face_at = {}
    for number, face in enumerate(faces_of(web, turns)):
        for dart in face:
            face_at[dart] = number
    return tuple([(face_at[(one, other)], face_at[(other, one)]) for one, other, weight in web[1]])


def odd_faces(web, turns):
    """Answer the numbers of all faces with an odd number of darts on gainful ties, rising."""
    odd = [0] * len(faces_of(web, turns))
    for tie, (one, other) in enumerate(beside(web, turns)):
        if is_gainful(web, tie):
            odd[one] ^= 1
            odd[other] ^= 1
    return tuple([number for number, is_odd in enumerate(odd) if is_odd == 1])
