"""Open answers: stores of which some pairs of answers are known."""

from toldpaths.checks import has_twice, is_list, is_manner, is_number
from toldpaths.errors import BadFact, BadManner, BadPath, BadThing, HasStore, NoStore
from toldpaths.graphs import explored_from, led, made_full
from toldpaths.paths import is_path, reduced
from toldpaths.plans import is_list_of_ways
from toldpaths.rooms import Rooms
from toldpaths.stores import Store
from toldpaths.turnedplans import corners_along, ways_of_nothing
from toldpaths.words import reduced_word, word_back

MOST_FACTS = 8


class Opened:
    """Stores for "matched" or "turned" in which some paths join some things."""

    def __init__(self, manner, facts):
        if not is_manner(manner) or manner == "any":
            raise BadManner(manner)
        self._manner = manner
        self._facts = _taken_facts(manner, facts)
        self._things = _things_of(self._facts)
        # None if there is no store.
        self._moves = _moves_of(self._facts)

    def facts(self):
        """Return the list of the triples (path, x, y)."""
        return list(self._facts)

    def things(self):
        """Return the sorted list of all things in facts."""
        return list(self._things)

    def is_possible(self):
        """Tell whether there is such a store."""
        return self._moves is not None

    def clash(self):
        """Return a thing and a list of pairs (index, way) of facts that lead from it to another thing for nothing."""
        if self._moves is not None:
            raise HasStore()
        places = {x: at for at, x in enumerate(self._things)}
        threads = [(path, places[x], places[y]) for path, x, y in self._facts]
        many = len(places)
        plans = ways_of_nothing(corners_along(many, threads))
        one, other = min([pair for pair in plans if pair[0] != pair[1] and pair[0] < many and pair[1] < many])
        return self._things[one], plans[(one, other)]

    def is_clash(self, thing):
        """Tell of any object whether it is a pair such as clash returns."""
        if not is_list(thing) or len(thing) != 2 or not is_number(thing[0]):
            return False
        if not is_list_of_ways(len(self._facts), thing[1]):
            return False
        at = thing[0]
        word = ""
        for index, way in thing[1]:
            path, ahead, behind = self._facts[index]
            if way == "back":
                path, ahead, behind = word_back(path), behind, ahead
            if ahead != at:
                return False
            word = word + path
            at = behind
        return at != thing[0] and reduced_word(word) == ""

    def sure(self, path):
        """Return the sorted list of all pairs of things that the path joins in every such store."""
        if not is_path(self._manner, path):
            raise BadPath(path)
        if self._moves is None:
            raise NoStore()
        # For "turned" a path leads on just as its reduced one, even over steps that nothing is known of.
        word = reduced(path) if self._manner == "turned" else path
        ends = [led(self._moves, at, word) for at in range(len(self._things))]
        return [(x, self._things[end]) for x, end in zip(self._things, ends)
                if end is not None and end < len(self._things)]

    def can_be(self, path, x, y):
        """Tell whether the path joins x with y in some such store."""
        if not is_path(self._manner, path):
            raise BadPath(path)
        for thing in (x, y):
            if not _is_thing(thing):
                raise BadThing(thing)
        return _moves_of(self._facts + [(path, x, y)]) is not None

    def freshest(self):
        """Return one such store, made of what must be alone, and the dict from things to its things."""
        if self._moves is None:
            raise NoStore()
        letters = sorted({letter.lower() for row in self._moves for letter in row})
        links = {letter: self._link_of(letter) for letter in letters}
        table = {x: at for at, x in enumerate(self._things)}
        return Store(self._manner, max(1, len(self._moves)), links), table

    def _link_of(self, letter):
        """Return the list of the pairs of a letter's link in the freshest store."""
        if self._manner == "turned":
            return list(enumerate(made_full(self._moves, letter)))
        return [(at, row[letter]) for at, row in enumerate(self._moves) if letter in row]


def _taken_facts(manner, facts):
    """Return a copy of a list of facts."""
    if not is_list(facts):
        raise BadFact(0)
    for index, fact in enumerate(facts):
        if index >= MOST_FACTS or not _is_fact(manner, fact):
            raise BadFact(index)
    return [tuple(fact) for fact in facts]


def _is_fact(manner, thing):
    """Tell whether an object is a triple of a path and two things."""
    return (is_list(thing) and len(thing) == 3 and is_path(manner, thing[0])
            and _is_thing(thing[1]) and _is_thing(thing[2]))


def _is_thing(thing):
    """Tell whether an object is an integer from 0 on."""
    return is_number(thing) and thing >= 0


def _things_of(facts):
    """Return the sorted list of all things in facts."""
    return sorted({x for fact in facts for x in fact[1:]})


def _moves_of(facts):
    """Return the moves between all things that there must be; those of the facts come first, in order.

    None if two things of the facts would have to be one.
    """
    rooms = Rooms()
    names = {x: rooms.fresh() for x in _things_of(facts)}
    for path, x, y in facts:
        rooms.thread(names[x], path, names[y])
    firsts = [rooms.found(room) for room in names.values()]
    if has_twice(firsts):
        return None
    _, moves = explored_from(firsts, lambda room: rooms.moves_from(room))
    return moves
