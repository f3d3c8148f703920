"""All errors of the package."""


class CutError(ValueError):
    """What every error of the package derives from."""


class NoWeb(CutError):
    """What was handed in makes no web."""


class NoSide(CutError):
    """What was handed in makes no side of the web."""


class NoText(CutError):
    """What was handed in is not what is written for a web."""


class NoWishes(CutError):
    """What was handed in are no wishes of the web."""


class NoTurns(CutError):
    """What was handed in are no turns of the web."""


class NotFlat(CutError):
    """The turns are not flat."""


class NoRing(CutError):
    """What was handed in is no odd ring."""


class NoPaper(CutError):
    """What was handed in is no paper of the kind that is asked for."""


class NoShare(CutError):
    """What was handed in is no fraction that may stand there."""


class NoTie(CutError):
    """There is no such tie, or there may be none."""


class NoWeight(CutError):
    """What was handed in is no weight of a tie."""


class NoDeed(CutError):
    """There is no deed left that can be taken back."""


class TooGreat(CutError):
    """What was handed in is more than this is made for."""
