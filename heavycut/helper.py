"""What several files ask of a thing that may be anything."""


def is_whole(thing):
    """Tell whether thing is an int; True and False are none."""
    return isinstance(thing, int) and not isinstance(thing, bool)


def is_row(thing):
    """Tell whether thing is a list or a tuple."""
    return isinstance(thing, (list, tuple))


def is_triple(thing):
    """Tell whether thing is a list or a tuple of three."""
    return is_row(thing) and len(thing) == 3


def is_number_of(many, thing):
    """Tell whether thing is the number of one of so many, counted from 0."""
    return is_whole(thing) and 0 <= thing < many


def are_unlike_points(many, one, other):
    """Tell whether one and other are two points of so many, not the same."""
    return is_number_of(many, one) and is_number_of(many, other) and one != other


def is_rising_choice(many, thing):
    """Tell whether thing is a tuple of numbers of some of so many: rising, each once, not empty."""
    if not isinstance(thing, tuple) or len(thing) == 0:
        return False
    if not all([is_number_of(many, number) for number in thing]):
        return False
    return all([number < following for number, following in zip(thing, thing[1:])])


def is_named(name, length, thing):
    """Tell whether thing, which may be anything, is a tuple of this length that begins with this name."""
    return isinstance(thing, tuple) and len(thing) == length and isinstance(thing[0], str) and thing[0] == name
