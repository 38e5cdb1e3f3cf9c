"""Paths: strings of steps, with kinds at their places."""

from toldpaths.checks import DIGITS, LETTERS, SMALL, is_below, is_manner, is_rising
from toldpaths.errors import BadManner, BadPath, BadPlace


def is_path(manner, thing):
    """Tell whether an object is a path for this manner."""
    if not is_manner(manner):
        raise BadManner(manner)
    if manner == "any":
        return _is_marked_path(thing)
    return _is_plain_path(thing)


def steps(path):
    """Return the list of the steps of a path of any manner."""
    if not _is_some_path(path):
        raise BadPath(path)
    return _steps(path)


def marks(path):
    """Return the list of the kinds of a path of any manner, a string for each place."""
    if not _is_some_path(path):
        raise BadPath(path)
    return _marks(path)


def piece(path, i, j):
    """Return the path from place i to place j, with all kinds at these."""
    if not _is_some_path(path):
        raise BadPath(path)
    taken = _steps(path)
    places = len(taken) + 1
    if not is_below(i, places):
        raise BadPlace(i)
    if not is_below(j, places) or j <= i:
        raise BadPlace(j)
    return _put_together(taken[i:j], _marks(path)[i:j + 1])


def joined(one, other):
    """Return the path of one and then other, with the kinds of both where they meet."""
    if not _is_some_path(one):
        raise BadPath(one)
    if not _is_some_path(other):
        raise BadPath(other)
    ahead = _marks(one)
    behind = _marks(other)
    meeting = "".join(sorted(set(ahead[-1] + behind[0])))
    path = _put_together(_steps(one) + _steps(other), ahead[:-1] + [meeting] + behind[1:])
    # Digits of the one and capital letters of the other make no path of any manner.
    if not _is_some_path(path):
        raise BadPath(other)
    return path


def back(path):
    """Return a path without kinds gone backward."""
    if not _is_plain_path(path):
        raise BadPath(path)
    return path[::-1].swapcase()


def reduced(path):
    """Return what is left of a path without kinds when steps and their backs are taken out."""
    if not _is_plain_path(path):
        raise BadPath(path)
    return _beginnings(path)[-1]


def tree(path):
    """Return the list of the reduced paths of all beginnings of a path without kinds."""
    if not _is_plain_path(path):
        raise BadPath(path)
    # Sorting keeps the order of strings of one length.
    in_order = sorted(set(_beginnings(path)))
    return sorted(in_order, key=len)


def _is_some_path(thing):
    """Tell whether an object is a path for at least one manner."""
    return _is_marked_path(thing) or _is_plain_path(thing)


def _is_plain_path(thing):
    """Tell whether an object is a path for "matched" and "turned"."""
    return isinstance(thing, str) and thing != "" and all([step in LETTERS for step in thing])


def _is_marked_path(thing):
    """Tell whether an object is a path for "any"."""
    if not isinstance(thing, str):
        return False
    taken = _steps(thing)
    if taken == [] or not all([step in SMALL for step in taken]):
        return False
    return all([is_rising(mark) for mark in _marks(thing)])


def _steps(text):
    """Return the list of all signs of a string that are not digits."""
    return [sign for sign in text if sign not in DIGITS]


def _marks(text):
    """Return the digits of a string, as a string for each place between the other signs."""
    found = [""]
    for sign in text:
        if sign in DIGITS:
            found[-1] += sign
        else:
            found.append("")
    return found


def _put_together(taken, kinds):
    """Return the path with these steps and kinds."""
    return kinds[0] + "".join([step + mark for step, mark in zip(taken, kinds[1:])])


def _beginnings(path):
    """Return the reduced paths of all beginnings of a path, from no step to all steps."""
    left = ""
    found = [left]
    for step in path:
        if left != "" and left[-1] == step.swapcase():
            left = left[:-1]
        else:
            left = left + step
        found.append(left)
    return found
