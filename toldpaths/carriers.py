"""Carriers: what plans find from kept answers that change pair by pair."""

from toldpaths.books import Book
from toldpaths.checks import DIGITS, is_below, is_list
from toldpaths.errors import BadBook, BadIndex, BadPiece, BadThing
from toldpaths.paths import is_path
from toldpaths.plans import carried, is_natural_row, is_plan

MOST_ASKED = 4


class Carrier:
    """The kept answers of a book without kinds, empty at first, and what is asked of them."""

    def __init__(self, book, asked):
        if not isinstance(book, Book) or not all([_is_plain(path) for path in book]):
            raise BadBook(book)
        self._book = book
        self._asked = _taken_asked(book, asked)
        # For each kept path a dict that has the pairs of its answer as keys.
        self._answers = [{} for _ in book]
        # The pairs (index, pair) that were added or dropped, in order.
        self._done = []
        self._found = self._all_found()

    def add(self, index, pair):
        """Put a pair into a kept answer; return what came to each answer asked for, and what went."""
        return self._put_or_taken(index, pair, False)

    def drop(self, index, pair):
        """Take a pair out of a kept answer; return what came to each answer asked for, and what went."""
        return self._put_or_taken(index, pair, True)

    def undo(self):
        """Take back the last add or drop and return what came and went by this, or None if there is none."""
        if self._done == []:
            return None
        index, pair = self._done.pop()
        return self._turned_about(index, pair)

    def answer(self, n):
        """Return what carried finds for an item of what is asked at present."""
        if not is_below(n, len(self._asked)):
            raise BadIndex(n)
        return list(self._found[n])

    def kept(self):
        """Return the list of the sorted kept answers."""
        return [sorted(answer) for answer in self._answers]

    def _put_or_taken(self, index, pair, is_there):
        """Put a pair into a kept answer, or take it out, if it is there or not as it must be."""
        if not is_below(index, len(self._answers)):
            raise BadIndex(index)
        if not is_natural_row(pair) or len(pair) != 2 or (tuple(pair) in self._answers[index]) != is_there:
            raise BadThing(pair)
        self._done.append((index, tuple(pair)))
        return self._turned_about(index, tuple(pair))

    def _turned_about(self, index, pair):
        """Take a pair that stands in a kept answer out of it, or put it in; return what came and went."""
        answer = self._answers[index]
        if pair in answer:
            del answer[pair]
        else:
            answer[pair] = True
        before = self._found
        self._found = self._all_found()
        return [(_lacking(now, old), _lacking(old, now)) for old, now in zip(before, self._found)]

    def _all_found(self):
        """Return what carried finds at present for each item of what is asked."""
        answers = self.kept()
        return [carried(self._book, path, plan, answers) for path, plan in self._asked]


def _is_plain(path):
    """Tell whether a path has no kinds."""
    return all([sign not in DIGITS for sign in path])


def _taken_asked(book, asked):
    """Return a copy of a list of pairs of a path and a plan for it."""
    if not is_list(asked):
        raise BadPiece(0)
    for index, item in enumerate(asked):
        if index >= MOST_ASKED or not _is_asked(book, item):
            raise BadPiece(index)
    return [(path, [tuple(pair) for pair in plan]) for path, plan in asked]


def _is_asked(book, thing):
    """Tell whether an object is a pair of a path without kinds and a plan for it."""
    if not is_list(thing) or len(thing) != 2 or not is_path(book.manner, thing[0]):
        return False
    return _is_plain(thing[0]) and is_plan(book, thing[0], thing[1])


def _lacking(pairs, others):
    """Return the list of those pairs that do not stand in another list."""
    there = {pair: True for pair in others}
    return [pair for pair in pairs if pair not in there]
