"""Paths at moments: strings of signs, where each letter is told with how often its link had changed.

A letter a whose link had changed twice is the sign "a2", a step back along it "A2"; a kind
is the sign of its digit alone.
"""

from toldpaths.checks import DIGITS, SMALL
from toldpaths.rooms import is_home, rows_of_paths
from toldpaths.tellers import is_told_by


def signs_at(path, changed):
    """Return the list of the signs of a path, behind changes of the links of a list of letters."""
    return [sign if sign in DIGITS else f"{sign}{changed.count(sign.lower())}" for sign in path]


def is_told_at(manner, kept, asked):
    """Tell whether a list of kept rows of signs tells a row of signs."""
    if manner == "turned":
        return is_home(rows_of_paths(kept), asked)
    # A kept path with a sign that does not stand in the one asked lies nowhere on it. So
    # there are as many letters as are needed, however many signs there are.
    names = {}
    for sign in asked:
        if sign not in DIGITS and sign.lower() not in names:
            names[sign.lower()] = SMALL[len(names)]
    fitting = [row for row in kept if all([sign in DIGITS or sign.lower() in names for sign in row])]
    return is_told_by(manner, [_path_of(names, row) for row in fitting], _path_of(names, asked))


def _path_of(names, row):
    """Return the path with a letter for each sign."""
    return "".join([_letter_of(names, sign) for sign in row])


def _letter_of(names, sign):
    """Return the letter for a sign, as great as the sign's own one."""
    if sign in DIGITS:
        return sign
    letter = names[sign.lower()]
    return letter if sign.islower() else letter.upper()
