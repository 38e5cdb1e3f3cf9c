"""Mixed letters: stores and paths in which some letters are turned ones, and the others any links."""

from toldpaths.checks import LETTERS, SMALL, is_rising
from toldpaths.errors import BadLetter, BadPath
from toldpaths.tables import check_links, check_many, copied, is_link, is_told_link, joined_along, sorted_links
from toldpaths.words import reduced_word


class MixedStore:
    """A store with the things 0 to many - 1, with links as for "turned" for the turned letters."""

    def __init__(self, turned, many, links):
        check_turned(turned)
        check_many(many)
        check_links(links, lambda letter, thing: is_link(_manner_of(turned, letter), many, thing))
        self.turned = turned
        self.many = many
        taken = sorted_links(links)
        self._links = {letter: pairs for letter, pairs in taken.items()
                       if is_told_link(_manner_of(turned, letter), pairs)}

    def __eq__(self, other):
        return (isinstance(other, MixedStore) and self.turned == other.turned and self.many == other.many
                and self._links == other._links)

    def links(self):
        """Return the dict from letters to the sorted lists of the pairs of their links."""
        return copied(self._links)

    def answer(self, path):
        """Return the sorted list of all pairs of things that the path joins."""
        if not is_mixed(self.turned, path):
            raise BadPath(path)
        everything = {x: True for x in range(self.many)}
        return joined_along([self._pairs_along(step) for step in path], [everything] * (len(path) + 1))

    def _pairs_along(self, step):
        """Return the list of all pairs that a step leads along."""
        letter = step.lower()
        if letter in self._links:
            pairs = self._links[letter]
        elif letter in self.turned:
            pairs = [(x, x) for x in range(self.many)]
        else:
            pairs = []
        if step == letter:
            return pairs
        return [(y, x) for x, y in pairs]


def is_mixed(turned, thing):
    """Tell of any object whether it is a mixed path for turned letters."""
    check_turned(turned)
    if not isinstance(thing, str) or not all([step in LETTERS for step in thing]):
        return False
    free = [step for step in thing if step.lower() not in turned]
    return free != [] and all([step.islower() for step in free])


def form(turned, path):
    """Return the form of a mixed path: reduced words of turned letters, and the other letters between them."""
    if not is_mixed(turned, path):
        raise BadPath(path)
    words = [""]
    for step in path:
        if step.lower() in turned:
            words[-1] += step
        else:
            words.extend([step, ""])
    return [reduced_word(word) for word in words]


def check_turned(thing):
    """Raise an error unless an object is a string of unlike small letters in alphabetical order."""
    if not isinstance(thing, str) or not all([letter in SMALL for letter in thing]) or not is_rising(thing):
        raise BadLetter(thing)


def _manner_of(turned, letter):
    """Return the manner of the links of a letter."""
    return "turned" if letter in turned else "any"
