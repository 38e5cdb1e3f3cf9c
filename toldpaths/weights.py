"""Weights: stores whose links bear worths, and what kept paths tell in their readings."""

from toldpaths.books import Book
from toldpaths.bridges import board_of, followed
from toldpaths.checks import has_twice, is_below, is_list, is_number
from toldpaths.errors import BadBook, BadPath, BadPlan, BadReading, IsTold
from toldpaths.openweights import open_links
from toldpaths.paths import is_path, marks, steps
from toldpaths.plans import check_answers, check_kinds, is_natural_row, is_plan, known_things
from toldpaths.readings import is_reading, least_worth, worths_along
from toldpaths.tables import check_links, check_many, copied, sorted_links, taken_kinds, things_having
from toldpaths.tells import is_told
from toldpaths.worthplans import worths_found


class Weights:
    """A store for "any" whose links bear worths, with the things 0 to many - 1."""

    def __init__(self, reading, many, links, kinds=None):
        if not is_reading(reading):
            raise BadReading(reading)
        check_many(many)
        check_links(links, lambda letter, thing: _is_link(reading, many, thing))
        self.reading = reading
        self.many = many
        taken = sorted_links(links)
        self._links = {letter: triples for letter, triples in taken.items() if triples != []}
        self._kinds = taken_kinds(many, kinds)

    def __eq__(self, other):
        return (isinstance(other, Weights) and self.reading == other.reading and self.many == other.many
                and self._links == other._links and self._kinds == other._kinds)

    def links(self):
        """Return the dict from letters to the sorted lists of the triples of their links."""
        return copied(self._links)

    def kinds(self):
        """Return the dict from digits to the sorted lists of the things of these kinds."""
        return copied(self._kinds)

    def answer(self, path):
        """Return the sorted list of the triples of all pairs that the path joins, with their worths."""
        if not is_path("any", path):
            raise BadPath(path)
        everything = list(range(self.many))
        things = [things_having(everything, mark, self._kinds) for mark in marks(path)]
        return worths_along(self.reading, self.many, [self._links.get(step, []) for step in steps(path)], things)


def worth_carried(book, path, plan, reading, answers, kinds=None):
    """Return the answer of the path in a reading that the plan finds from the kept answers alone."""
    _check_book_and_path(book, path)
    if not is_plan(book, path, plan):
        raise BadPlan(plan)
    if not is_reading(reading):
        raise BadReading(reading)
    check_answers(len(book), answers, lambda thing: _is_answer(reading, thing))
    check_kinds(kinds)
    known = known_things(answers)
    places = followed(board_of("any", book.kept(), path), plan)
    mark_at = marks(path)
    having = [things_having(known, mark_at[place], {} if kinds is None else kinds) for place in places]
    return worths_found(reading, known, having, plan, answers)


def worth_open(book, path, reading):
    """Return a pair of Weights of the reading which show that the path is not told."""
    _check_book_and_path(book, path)
    if not is_reading(reading):
        raise BadReading(reading)
    if is_told(book, path):
        raise IsTold(path)
    many, straight, crossed, kinds = open_links(book.kept(), path)
    return Weights(reading, many, straight, kinds), Weights(reading, many, crossed, kinds)


def is_worth_witness(book, path, one, other):
    """Tell of any two objects whether they are Weights which show that the path is not told."""
    _check_book_and_path(book, path)
    if not isinstance(one, Weights) or not isinstance(other, Weights):
        return False
    if one.reading != other.reading or one.many != other.many or one.kinds() != other.kinds():
        return False
    if not all([one.answer(kept) == other.answer(kept) for kept in book]):
        return False
    return one.answer(path) != other.answer(path)


def _is_link(reading, many, thing):
    """Tell whether an object is a list of triples that a reading lets as a link."""
    if not is_list(thing) or not all([is_list(row) and len(row) == 3 for row in thing]):
        return False
    if not all([is_below(x, many) and is_below(y, many) and _is_worth(reading, worth) for x, y, worth in thing]):
        return False
    return not has_twice([(x, y) for x, y, _ in thing])


def _is_worth(reading, thing):
    """Tell whether an object is a worth that a reading lets."""
    return is_number(thing) and thing >= least_worth(reading)


def _check_book_and_path(book, path):
    """Raise an error unless an object is a book for "any", and another one a path for it."""
    if not isinstance(book, Book) or book.manner != "any":
        raise BadBook(book)
    if not is_path("any", path):
        raise BadPath(path)


def _is_answer(reading, thing):
    """Tell whether an object is a list of triples, two things and a worth, with each pair at most once."""
    if not is_list(thing) or not all([is_natural_row(row) and len(row) == 3 for row in thing]):
        return False
    return all([_is_worth(reading, row[2]) for row in thing]) and not has_twice([(x, y) for x, y, _ in thing])
