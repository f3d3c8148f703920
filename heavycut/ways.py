"""Ways from face to face: over ties, each as long as the size of its tie."""

from heavycut.fractions import as_fraction
from heavycut.turns import beside, faces_of
from heavycut.webs import whole_scale, whole_sizes


def links_at(web, turns):
    """Answer a dict that has, for each face, the list of (other face, tie) of its links."""
    near = {}
    for tie, (one, other) in enumerate(beside(web, turns)):
        near.setdefault(one, []).append((other, tie))
        near.setdefault(other, []).append((one, tie))
    return near


def spread_from(web, turns, face):
    """Answer dicts (far, last) of all faces that links lead to from this face.

    far has the distances, as ints of the web's scale; last has the link by which a face is
    reached: its tie and the face before.
    """
    near = links_at(web, turns)
    sizes = whole_sizes(web)
    far, last, done = {face: 0}, {}, {}
    while len(done) < len(far):
        distance, here = min([(far[reached], reached) for reached in far if reached not in done])
        done[here] = True
        for other, tie in near.get(here, []):
            if other not in far or distance + sizes[tie] < far[other]:
                far[other] = distance + sizes[tie]
                last[other] = (tie, here)
    return (far, last)


def distances(web, turns, face):
    """Answer, for each face, how far it is from this face, or None if no links lead there."""
    many = len(faces_of(web, turns))
    far, last = spread_from(web, turns, face)
    scale = whole_scale(web)
    return tuple([as_fraction(far[other], scale) if other in far else None for other in range(many)])


def way_between(web, turns, one, other):
    """Answer the ties of a shortest way from one face to another, in order, or None if there is none."""
    far, last = spread_from(web, turns, one)
    if other not in far:
        return None
    way = []
    here = other
    while here != one:
        tie, here = last[here]
        way.append(tie)
    return tuple(reversed(way))
