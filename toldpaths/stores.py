"""Stores: links between things, the answers of paths in them, and their texts."""

from toldpaths.checks import DIGITS, SMALL, has_twice, is_below, is_list, is_manner, is_number
from toldpaths.checks import is_rising, is_sign_of
from toldpaths.errors import BadKind, BadLink, BadManner, BadMany, BadPath, BadText
from toldpaths.paths import is_path, marks, steps


class Store:
    """A store with the things 0 to many - 1."""

    def __init__(self, manner, many, links, kinds=None):
        if not is_manner(manner):
            raise BadManner(manner)
        if not is_number(many) or many < 1:
            raise BadMany(many)
        self.manner = manner
        self.many = many
        self._links = _taken_links(manner, many, links)
        self._kinds = _taken_kinds(manner, many, kinds)

    def __eq__(self, other):
        return (isinstance(other, Store) and self.manner == other.manner and self.many == other.many
                and self._links == other._links and self._kinds == other._kinds)

    def links(self):
        """Return the dict from letters to the sorted lists of the pairs of their links."""
        return {letter: list(pairs) for letter, pairs in self._links.items()}

    def kinds(self):
        """Return the dict from digits to the sorted lists of the things of these kinds."""
        return {kind: list(things) for kind, things in self._kinds.items()}

    def answer(self, path):
        """Return the sorted list of all pairs of things that the path joins."""
        if not is_path(self.manner, path):
            raise BadPath(path)
        taken = steps(path)
        kinds = marks(path)
        # From the path's end on: for each thing, the ends to which the rest of the path
        # leads from it, as the bits of an integer.
        ends = {x: 1 << x for x in self._things_with(kinds[-1])}
        for place in range(len(taken) - 1, -1, -1):
            ends = _led_on(self._pairs_along(taken[place]), self._things_with(kinds[place]), ends)
        return [(x, y) for x in sorted(ends) for y in _bits(ends[x])]

    def text(self):
        """Return the store as a text."""
        lines = [f"store {self.manner} {self.many}\n"]
        for letter, pairs in self._links.items():
            lines.append(f"link {letter}" + "".join([f" {x}-{y}" for x, y in pairs]) + "\n")
        for kind, things in self._kinds.items():
            lines.append(f"kind {kind}" + "".join([f" {x}" for x in things]) + "\n")
        return "".join(lines)

    @staticmethod
    def of_text(text):
        """Return the store with this text."""
        lines = text.split("\n")
        head = _head_of(lines[0])
        if head is None or len(lines) == 1:
            raise BadText(1)
        links = {}
        kinds = {}
        for at in range(1, len(lines) - 1):
            if not _puts_row(lines[at], links, kinds):
                raise BadText(at + 1)
        # What stands behind the last line feed is a line without one, unless it is empty.
        if lines[-1] != "":
            raise BadText(len(lines))
        return Store(head[0], head[1], links, kinds)

    def _things_with(self, mark):
        """Return a dict that has just the things with all these kinds as its keys."""
        things = {x: True for x in range(self.many)}
        for kind in mark:
            things = {x: True for x in self._kinds.get(kind, []) if x in things}
        return things

    def _pairs_along(self, step):
        """Return the list of all pairs that a step leads along."""
        letter = step.lower()
        if letter in self._links:
            pairs = self._links[letter]
        elif self.manner == "turned":
            pairs = [(x, x) for x in range(self.many)]
        else:
            pairs = []
        if step == letter:
            return pairs
        return [(y, x) for x, y in pairs]


def _led_on(pairs, things, ends):
    """Return the ends of things, one step ahead of the things whose ends are told."""
    led = {}
    for x, y in pairs:
        if x in things and y in ends:
            led[x] = led.get(x, 0) | ends[y]
    return led


def _bits(number):
    """Return the list of the places of all ones in an integer, rising."""
    found = []
    while number > 0:
        lowest = number & -number
        found.append(lowest.bit_length() - 1)
        number = number ^ lowest
    return found


def _taken_links(manner, many, links):
    """Return a sorted copy of links, without the letters that can be left out."""
    if not isinstance(links, dict):
        raise BadLink(links)
    for letter in links:
        if not is_sign_of(letter, SMALL) or not _is_link(manner, many, links[letter]):
            raise BadLink(letter)
    taken = {letter: sorted([(x, y) for x, y in links[letter]]) for letter in sorted(links)}
    if manner == "turned":
        return {letter: pairs for letter, pairs in taken.items() if any([x != y for x, y in pairs])}
    return {letter: pairs for letter, pairs in taken.items() if pairs != []}


def _is_link(manner, many, thing):
    """Tell whether an object is a list of pairs that this manner wants as a link."""
    if not is_list(thing) or not all([_is_pair(many, pair) for pair in thing]):
        return False
    if has_twice([(x, y) for x, y in thing]):
        return False
    if manner == "any":
        return True
    if has_twice([x for x, _ in thing]) or has_twice([y for _, y in thing]):
        return False
    return manner == "matched" or len(thing) == many


def _is_pair(many, thing):
    """Tell whether an object is a pair of things of a store."""
    return is_list(thing) and len(thing) == 2 and all([is_below(x, many) for x in thing])


def _taken_kinds(manner, many, kinds):
    """Return a sorted copy of kinds, without the digits that no thing has."""
    if kinds is None:
        return {}
    if not isinstance(kinds, dict):
        raise BadKind(kinds)
    for kind in kinds:
        if manner != "any" or not is_sign_of(kind, DIGITS) or not _is_row(many, kinds[kind]):
            raise BadKind(kind)
    return {kind: sorted(kinds[kind]) for kind in sorted(kinds) if len(kinds[kind]) > 0}


def _is_row(many, thing):
    """Tell whether an object is a list of unlike things of a store."""
    return is_list(thing) and all([is_below(x, many) for x in thing]) and not has_twice(thing)


def _head_of(line):
    """Return the manner and the number of things that a `store` line tells, or None."""
    words = line.split(" ")
    if len(words) != 3 or words[0] != "store" or not is_manner(words[1]):
        return None
    many = _number_of(words[2])
    if many is None:
        return None
    return words[1], many


def _puts_row(line, links, kinds):
    """Put what a `link` or `kind` line tells into its dict; tell whether the line can stand."""
    words = line.split(" ")
    if len(words) < 3:
        return False
    if words[0] == "link" and kinds == {} and is_sign_of(words[1], SMALL):
        return _puts(links, words[1], [_pair_of(word) for word in words[2:]])
    if words[0] == "kind" and is_sign_of(words[1], DIGITS):
        return _puts(kinds, words[1], [_number_of(word) for word in words[2:]])
    return False


def _puts(table, key, row):
    """Put a row into a dict, if the key is behind all others and the row rises."""
    if any([key <= other for other in table]) or None in row or not is_rising(row):
        return False
    table[key] = row
    return True


def _pair_of(word):
    """Return the pair that is written as X-Y, or None."""
    pair = tuple([_number_of(part) for part in word.split("-")])
    if len(pair) != 2 or None in pair:
        return None
    return pair


def _number_of(word):
    """Return the integer that is written in digits without leading zeros, or None."""
    if word == "" or not all([sign in DIGITS for sign in word]):
        return None
    if word[0] == "0" and word != "0":
        return None
    return int(word)
