"""Stores: links between things, the answers of paths in them, and their texts."""

from toldpaths.checks import DIGITS, SMALL, is_manner, is_rising, is_sign_of
from toldpaths.errors import BadKind, BadManner, BadPath, BadText
from toldpaths.paths import is_path, marks, steps
from toldpaths.tables import check_links, check_many, copied, is_link, is_told_link, joined_along, sorted_links
from toldpaths.tables import taken_kinds, things_having


class Store:
    """A store with the things 0 to many - 1."""

    def __init__(self, manner, many, links, kinds=None):
        if not is_manner(manner):
            raise BadManner(manner)
        check_many(many)
        self.manner = manner
        self.many = many
        self._links = _taken_links(manner, many, links)
        self._kinds = _taken_kinds(manner, many, kinds)

    def __eq__(self, other):
        return (isinstance(other, Store) and self.manner == other.manner and self.many == other.many
                and self._links == other._links and self._kinds == other._kinds)

    def links(self):
        """Return the dict from letters to the sorted lists of the pairs of their links."""
        return copied(self._links)

    def kinds(self):
        """Return the dict from digits to the sorted lists of the things of these kinds."""
        return copied(self._kinds)

    def answer(self, path):
        """Return the sorted list of all pairs of things that the path joins."""
        if not is_path(self.manner, path):
            raise BadPath(path)
        everything = list(range(self.many))
        things = [things_having(everything, mark, self._kinds) for mark in marks(path)]
        return joined_along([self._pairs_along(step) for step in steps(path)], things)

    def text(self):
        """Return the store as a text."""
        lines = [f"store {self.manner} {self.many}\n"]
        for letter, pairs in self._links.items():
            lines.append(f"link {letter}" + "".join([f" {x}-{y}" for x, y in pairs]) + "\n")
        for kind, things in self._kinds.items():
            lines.append(f"kind {kind}" + "".join([f" {x}" for x in things]) + "\n")
        return "".join(lines)

    @staticmethod
    def of_text(text):
        """Return the store with this text."""
        lines = text.split("\n")
        head = _head_of(lines[0])
        if head is None or len(lines) == 1:
            raise BadText(1)
        links = {}
        kinds = {}
        for at in range(1, len(lines) - 1):
            if not _puts_row(lines[at], links, kinds):
                raise BadText(at + 1)
        # What stands behind the last line feed is a line without one, unless it is empty.
        if lines[-1] != "":
            raise BadText(len(lines))
        return Store(head[0], head[1], links, kinds)

    def _pairs_along(self, step):
        """Return the list of all pairs that a step leads along."""
        letter = step.lower()
        if letter in self._links:
            pairs = self._links[letter]
        elif self.manner == "turned":
            pairs = [(x, x) for x in range(self.many)]
        else:
            pairs = []
        if step == letter:
            return pairs
        return [(y, x) for x, y in pairs]


def _taken_links(manner, many, links):
    """Return a sorted copy of links, without the letters that can be left out."""
    check_links(links, lambda letter, thing: is_link(manner, many, thing))
    taken = sorted_links(links)
    return {letter: pairs for letter, pairs in taken.items() if is_told_link(manner, pairs)}


def _taken_kinds(manner, many, kinds):
    """Return a sorted copy of kinds; there are some for "any" alone."""
    if manner != "any" and isinstance(kinds, dict):
        for kind in kinds:
            raise BadKind(kind)
    return taken_kinds(many, kinds)


def _head_of(line):
    """Return the manner and the number of things that a `store` line tells, or None."""
    words = line.split(" ")
    if len(words) != 3 or words[0] != "store" or not is_manner(words[1]):
        return None
    many = _number_of(words[2])
    if many is None:
        return None
    return words[1], many


def _puts_row(line, links, kinds):
    """Put what a `link` or `kind` line tells into its dict; tell whether the line can stand."""
    words = line.split(" ")
    if len(words) < 3:
        return False
    if words[0] == "link" and kinds == {} and is_sign_of(words[1], SMALL):
        return _puts(links, words[1], [_pair_of(word) for word in words[2:]])
    if words[0] == "kind" and is_sign_of(words[1], DIGITS):
        return _puts(kinds, words[1], [_number_of(word) for word in words[2:]])
    return False


def _puts(table, key, row):
    """Put a row into a dict, if the key is behind all others and the row rises."""
    if any([key <= other for other in table]) or None in row or not is_rising(row):
        return False
    table[key] = row
    return True


def _pair_of(word):
    """Return the pair that is written as X-Y, or None."""
    pair = tuple([_number_of(part) for part in word.split("-")])
    if len(pair) != 2 or None in pair:
        return None
    return pair


def _number_of(word):
    """Return the integer that is written in digits without leading zeros, or None."""
    if word == "" or not all([sign in DIGITS for sign in word]):
        return None
    if word[0] == "0" and word != "0":
        return None
    return int(word)
