"""Whether kept paths tell a path, and what shows it."""

from toldpaths.books import Book
from toldpaths.bridges import board_of, cheapest, plan_on
from toldpaths.errors import BadBook, BadPath
from toldpaths.openstores import open_stores
from toldpaths.paths import is_path
from toldpaths.stores import Store
from toldpaths.tellers import is_told_by
from toldpaths.turnedplans import turned_plan


def is_told(book, path):
    """Tell whether the book's kept paths tell the path."""
    if not is_path(book.manner, path):
        raise BadPath(path)
    return is_told_by(book.manner, book.kept(), path)


def verdict(book, path):
    """Return ("told", plan) or ("open", one, other) with two stores that show it."""
    if not is_told(book, path):
        one, other = open_stores(book.manner, book.kept(), path)
        return "open", one, other
    if book.manner == "turned":
        return "told", turned_plan(book.kept(), path)
    return "told", plan_on(board_of(book.manner, book.kept(), path))


def is_witness(book, path, one, other):
    """Tell of any two objects whether they are stores which show that the path is not told."""
    if not is_path(book.manner, path):
        raise BadPath(path)
    if not isinstance(one, Store) or not isinstance(other, Store):
        return False
    if one.manner != book.manner or other.manner != book.manner:
        return False
    if one.many != other.many or one.kinds() != other.kinds():
        return False
    if not all([one.answer(kept) == other.answer(kept) for kept in book]):
        return False
    return one.answer(path) != other.answer(path)


def is_joined(book, path):
    """Tell of a book for "any" whether there is a plan for the path without "back"."""
    if not isinstance(book, Book) or book.manner != "any":
        raise BadBook(book)
    if not is_path("any", path):
        raise BadPath(path)
    board = board_of("any", book.kept(), path)
    plan = cheapest(board.bridges, 0, board.goal)
    return plan is not None and all([way == "on" for _, way in plan])
