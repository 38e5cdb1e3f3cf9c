"""Tables of stores: links and kinds as they are passed, and the answers of paths along them."""

from toldpaths.checks import DIGITS, SMALL, has_twice, is_below, is_list, is_number, is_sign_of
from toldpaths.errors import BadKind, BadLink, BadMany


def check_many(many):
    """Raise an error unless an object is a number of things of a store."""
    if not is_number(many) or many < 1:
        raise BadMany(many)


def check_links(links, is_right):
    """Raise an error unless an object is a dict from small letters to links.

    is_right(letter, thing) tells of any object whether it can be the link of a letter.
    """
    if not isinstance(links, dict):
        raise BadLink(links)
    for letter in links:
        if not is_sign_of(letter, SMALL) or not is_right(letter, links[letter]):
            raise BadLink(letter)


def is_link(manner, many, thing):
    """Tell whether an object is a list of pairs that this manner wants as a link."""
    if not is_list(thing) or not all([_is_pair(many, pair) for pair in thing]):
        return False
    if has_twice([(x, y) for x, y in thing]):
        return False
    if manner == "any":
        return True
    if has_twice([x for x, _ in thing]) or has_twice([y for _, y in thing]):
        return False
    return manner == "matched" or len(thing) == many


def sorted_links(links):
    """Return a copy of links, with letters in order and each link sorted."""
    return {letter: sorted([tuple(row) for row in links[letter]]) for letter in sorted(links)}


def is_told_link(manner, pairs):
    """Tell whether a link is told by links(): one that is left out means the same otherwise."""
    if manner == "turned":
        return any([x != y for x, y in pairs])
    return pairs != []


def taken_kinds(many, kinds):
    """Return a sorted copy of kinds, without the digits that no thing has."""
    if kinds is None:
        return {}
    if not isinstance(kinds, dict):
        raise BadKind(kinds)
    for kind in kinds:
        if not is_sign_of(kind, DIGITS) or not _is_row(many, kinds[kind]):
            raise BadKind(kind)
    return {kind: sorted(kinds[kind]) for kind in sorted(kinds) if len(kinds[kind]) > 0}


def copied(table):
    """Return a copy of a dict of lists, new at every depth."""
    return {key: list(row) for key, row in table.items()}


def things_having(things, mark, kinds):
    """Return a dict that has just those of a list of things with all kinds of a mark as its keys."""
    having = {x: True for x in things}
    for kind in mark:
        others = {x: True for x in kinds.get(kind, [])}
        having = {x: True for x in having if x in others}
    return having


def joined_along(links, things):
    """Return the sorted list of the pairs that are joined by a row of links, one for each step.

    things is a list of the dicts that have the things which can stand at each place as keys.
    """
    # From the path's end on: for each thing, the ends to which the rest of the path leads
    # from it, as the bits of an integer.
    ends = {x: 1 << x for x in things[-1]}
    for place in range(len(links) - 1, -1, -1):
        ends = _led_on(links[place], things[place], ends)
    return [(x, y) for x in sorted(ends) for y in _bits(ends[x])]


def _is_pair(many, thing):
    """Tell whether an object is a pair of things of a store."""
    return is_list(thing) and len(thing) == 2 and all([is_below(x, many) for x in thing])


def _is_row(many, thing):
    """Tell whether an object is a list of unlike things of a store."""
    return is_list(thing) and all([is_below(x, many) for x in thing]) and not has_twice(thing)


def _led_on(pairs, things, ends):
    """Return the ends of things, one step ahead of the things whose ends are told."""
    led = {}
    for x, y in pairs:
        if x in things and y in ends:
            led[x] = led.get(x, 0) | ends[y]
    return led


def _bits(number):
    """Return the list of the places of all ones in an integer, rising."""
    found = []
    while number > 0:
        lowest = number & -number
        found.append(lowest.bit_length() - 1)
        number = number ^ lowest
    return found
