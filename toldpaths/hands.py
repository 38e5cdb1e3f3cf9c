"""Hands: what groups of those that know some paths know together."""

from toldpaths.checks import is_list, is_manner, is_number
from toldpaths.choices import check_paths, indices_of
from toldpaths.errors import BadHand, BadManner, BadNumber, BadPath
from toldpaths.paths import is_path
from toldpaths.tellers import Teller

MOST_HANDS = 6

MOST_KNOWN = 4


def telling(manner, hands, path):
    """Return the list of all least groups of hands that know together what tells the path."""
    _check_hands(manner, hands)
    if not is_path(manner, path):
        raise BadPath(path)
    menu = _menu_of(hands)
    known = _known_by(menu, hands)
    teller = Teller(manner, menu, [path])
    found = []
    # As numbers, too, groups come ahead of those that have their hands and more.
    for group in range(1 << len(hands)):
        if not any([group & fewer == fewer for fewer in found]) and teller.all_told(_known_together(known, group)):
            found.append(group)
    return [indices_of(group) for group in found]


def is_safe(manner, hands, k, secrets):
    """Tell whether no k hands together, or fewer, know what tells one of the secrets."""
    _check_all(manner, hands, k, secrets)
    menu = _menu_of(hands)
    return _is_safe_by(Teller(manner, menu, secrets), _known_by(menu, hands), k)


def grants(manner, hands, k, secrets, path):
    """Return the rising list of the indices of all hands to which the path can be given so that it is safe then."""
    _check_all(manner, hands, k, secrets)
    if not is_path(manner, path):
        raise BadPath(path)
    menu = _menu_of(list(hands) + [[path]])
    known = _known_by(menu, hands)
    given = 1 << menu.index(path)
    teller = Teller(manner, menu, secrets)
    return [index for index, chosen in enumerate(known)
            if _is_safe_by(teller, known[:index] + [chosen | given] + known[index + 1:], k)]


def _check_hands(manner, hands):
    """Raise an error unless there are a manner and a list of hands for it."""
    if not is_manner(manner):
        raise BadManner(manner)
    if not is_list(hands):
        raise BadHand(0)
    for index, hand in enumerate(hands):
        if index >= MOST_HANDS or not _is_hand(manner, hand):
            raise BadHand(index)


def _is_hand(manner, thing):
    """Tell whether an object is a list of at most four unlike paths."""
    if not is_list(thing) or len(thing) > MOST_KNOWN or not all([is_path(manner, path) for path in thing]):
        return False
    return len(_menu_of([thing])) == len(thing)


def _check_all(manner, hands, k, secrets):
    """Raise an error unless there are hands, a number of them, and secrets."""
    _check_hands(manner, hands)
    if not is_number(k) or k < 0:
        raise BadNumber(k)
    check_paths(manner, secrets)


def _menu_of(hands):
    """Return the list of all paths that hands know, each once."""
    return list({path: True for hand in hands for path in hand})


def _known_by(menu, hands):
    """Return for each hand the choice of the menu that it knows."""
    places = {path: place for place, path in enumerate(menu)}
    return [sum([1 << places[path] for path in hand]) for hand in hands]


def _known_together(known, group):
    """Return the choice of the menu that a group knows together."""
    together = 0
    for index in indices_of(group):
        together = together | known[index]
    return together


def _is_safe_by(teller, known, k):
    """Tell whether no k hands, or fewer, know together what tells one of the teller's paths."""
    # More hands know no less, so that the greatest groups are enough.
    many = min(k, len(known))
    groups = [group for group in range(1 << len(known)) if len(indices_of(group)) == many]
    return not any([teller.some_told(_known_together(known, group)) for group in groups])
