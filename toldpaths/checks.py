"""What several files ask of the objects that they are passed."""

MANNERS = ("any", "matched", "turned")

SMALL = "abcdefghijklmnopqrstuvwxyz"

LETTERS = "abcdefghijklmnopqrstuvwxyzABCDEFGHIJKLMNOPQRSTUVWXYZ"

DIGITS = "0123456789"


def is_manner(thing):
    """Tell whether an object is one of the three manners."""
    return isinstance(thing, str) and thing in MANNERS


def is_list(thing):
    """Tell whether an object is a list, or a tuple, which means the same."""
    return isinstance(thing, (list, tuple))


def is_number(thing):
    """Tell whether an object is an integer; True and False are none."""
    return isinstance(thing, int) and not isinstance(thing, bool)


def is_below(thing, many):
    """Tell whether an object is an integer from 0 to many - 1."""
    return is_number(thing) and 0 <= thing < many


def is_sign_of(thing, signs):
    """Tell whether an object is a string of just one of the signs."""
    return isinstance(thing, str) and len(thing) == 1 and thing in signs


def is_rising(row):
    """Tell whether each item of a list or string is greater than the one ahead of it."""
    return all([one < other for one, other in zip(row, row[1:])])


def has_twice(row):
    """Tell whether a list of integers, strings or tuples of these has an item twice."""
    return len(set(row)) < len(row)
