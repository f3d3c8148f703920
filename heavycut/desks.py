"""Desks: a web that is changed tie by tie, with a heaviest side and a paper that none is heavier."""

from heavycut.cases import heaviest
from heavycut.errors import NoDeed, NoTie, NoWeight
from heavycut.helper import are_unlike_points
from heavycut.naming import with_numbers
from heavycut.reader import meets
from heavycut.webs import is_weight, made_web, tie_number


def tie_at(web, one, other):
    """Answer the number of the tie of one and other, which may be anything, or None."""
    return tie_number(web, one, other) if are_unlike_points(web[0], one, other) else None


def rings_have(paper, tie):
    """Tell whether a ring of a paper of cases and rings has the tie of this number."""
    if paper[0] == "cases":
        return rings_have(paper[3], tie) or rings_have(paper[4], tie)
    return any([tie in ring for ring, share in paper[1]])


def followed(web, paper, changed):
    """Answer the paper with its rings told by the numbers in the changed web, None if a ring has a tie taken away."""
    numbers = [tie_number(changed, one, other) for one, other, weight in web[1]]
    for tie, number in enumerate(numbers):
        if number is None and rings_have(paper, tie):
            return None
    return with_numbers(paper, numbers)


def found_anew(web):
    """Answer (web, side, paper) with a heaviest side and a paper that it meets."""
    # There are no wishes, so each point is a group, and more than 16 are refused there.
    name, side, paper = heaviest(web, ())
    return (web, side, paper)


class Desk:
    """A desk keeps a web of no more than 16 points, a side and a paper that meet."""

    def __init__(self, web):
        self.now = found_anew(web)
        self.earlier = []

    def lay(self, ties):
        """Go on with these ties; answer 1 if side and paper are kept, 0 if they are found anew."""
        web, side, paper = self.now
        changed = made_web(web[0], ties)
        kept = followed(web, paper, changed)
        is_kept = meets(changed, (), side, kept)
        state = (changed, side, kept) if is_kept else found_anew(changed)
        self.earlier.append(self.now)
        self.now = state
        return 1 if is_kept else 0

    def change(self, one, other, weight):
        """Give the tie of two points another weight; answer 1 if side and paper are kept, else 0."""
        web = self.now[0]
        tie = tie_at(web, one, other)
        if tie is None:
            raise NoTie("there is no such tie")
        if not is_weight(weight):
            raise NoWeight("this is no weight of a tie")
        return self.lay(web[1][:tie] + ((one, other, weight),) + web[1][tie + 1:])

    def put(self, one, other, weight):
        """Add a tie of two points; answer 1 if side and paper are kept, else 0."""
        web = self.now[0]
        if not are_unlike_points(web[0], one, other) or tie_at(web, one, other) is not None:
            raise NoTie("there is such a tie already, or these are not two unlike points of the web")
        if not is_weight(weight):
            raise NoWeight("this is no weight of a tie")
        return self.lay(web[1] + ((one, other, weight),))

    def take(self, one, other):
        """Take the tie of two points away; answer 1 if side and paper are kept, else 0."""
        web = self.now[0]
        tie = tie_at(web, one, other)
        if tie is None:
            raise NoTie("there is no such tie")
        return self.lay(web[1][:tie] + web[1][tie + 1:])

    def standing(self):
        """Answer (web, side, paper) as they are now."""
        return self.now

    def undo(self):
        """Take back the last deed that is not taken back yet; answer how many are left."""
        if not self.earlier:
            raise NoDeed("there is no deed that can be taken back")
        self.now = self.earlier.pop()
        return len(self.earlier)
