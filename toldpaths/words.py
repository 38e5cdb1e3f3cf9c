"""Words: strings of letters, perhaps empty, so that not all of them are paths."""

from toldpaths.checks import LETTERS


def is_word(thing):
    """Tell whether an object is a string of letters, perhaps empty."""
    return isinstance(thing, str) and all([letter in LETTERS for letter in thing])


def reduced_word(word):
    """Return what is left of a word, however long, when letters and their backs are taken out."""
    return "".join(reduced_row(word))


def reduced_row(row):
    """Return the list of the letters that are left of a word, or of a list of letters."""
    left = []
    for letter in row:
        if left != [] and left[-1] == letter.swapcase():
            left.pop()
        else:
            left.append(letter)
    return left


def stepped(word, letter):
    """Return the reduced word that is one letter further than a reduced word."""
    if word != "" and word[-1] == letter.swapcase():
        return word[:-1]
    return word + letter


def word_back(word):
    """Return a word gone backward."""
    return word[::-1].swapcase()
