"""Webs as texts, written in one way and read strictly."""

from heavycut.errors import NoText, NoWeb
from heavycut.webs import made_web

# No int of a web has more digits; Python itself refuses to read very long rows of them.
MOST_DIGITS = 10


def shown_weight(weight):
    """Answer the text of a weight, with its bottom only if that is not 1."""
    top, bottom = weight
    return str(top) if bottom == 1 else f"{top}/{bottom}"


def show_web(web):
    """Answer the text of a web."""
    many, ties = web
    words = [f"{one}-{other}={shown_weight(weight)}" for one, other, weight in ties]
    return " ".join([str(many)] + words)


def read_int(word):
    """Answer the int that a word tells, or None; needless zeros and a minus are let by."""
    digits = word.removeprefix("-")
    if len(digits) > MOST_DIGITS or not digits.isascii() or not digits.isdigit():
        return None
    return int(word)


def read_weight(word):
    """Answer the pair of top and bottom that a word tells, None in it for what is no int."""
    top, slash, bottom = word.partition("/")
    return (read_int(top), read_int(bottom) if slash else 1)


def read_tie(word):
    """Answer the triple that a word tells, with None for what is no int."""
    points, sign, weight = word.partition("=")
    one, dash, other = points.partition("-")
    return (read_int(one), read_int(other), read_weight(weight))


def read_web(text):
    """Answer the web that a text is written for; anything else is refused."""
    if not isinstance(text, str):
        raise NoText("this is no text")
    words = text.split(" ")
    try:
        web = made_web(read_int(words[0]), [read_tie(word) for word in words[1:]])
    except NoWeb:
        raise NoText("the text tells no web") from None
    # Words are read loosely above; what is not written just so is told apart here alone.
    if show_web(web) != text:
        raise NoText("the web of this text is written otherwise")
    return web
