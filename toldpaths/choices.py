"""Choices: which kept paths are needed, which may be kept, and what is still to be asked."""

from toldpaths.books import Book
from toldpaths.checks import is_list
from toldpaths.errors import BadBook, BadPath
from toldpaths.paths import is_path, piece, steps
from toldpaths.tellers import Teller, is_told_by
from toldpaths.tells import is_told


def tells_all(book, other):
    """Tell whether each kept path of the other book is told by the first."""
    if not isinstance(other, Book) or other.manner != book.manner:
        raise BadBook(other)
    return Teller(book.manner, book.kept(), other.kept()).all_told(_all_of(book))


def needless(book):
    """Return the rising list of the indices of all kept paths that the other ones tell."""
    kept = book.kept()
    return [index for index, path in enumerate(kept)
            if is_told_by(book.manner, kept[:index] + kept[index + 1:], path)]


def least(manner, menu, wishes):
    """Return all least choices from the menu that tell all wishes."""
    book = Book(manner, menu)
    check_paths(manner, wishes)
    teller = Teller(manner, book.kept(), wishes)
    found = []
    # As numbers, too, choices come ahead of those that have their paths and more.
    for chosen in range(1 << len(book)):
        if not any([chosen & fewer == fewer for fewer in found]) and teller.all_told(chosen):
            found.append(chosen)
    return [indices_of(chosen) for chosen in found]


def greatest(manner, menu, secrets):
    """Return all greatest choices from the menu that tell none of the secrets."""
    book = Book(manner, menu)
    check_paths(manner, secrets)
    teller = Teller(manner, book.kept(), secrets)
    found = []
    for chosen in range(_all_of(book), -1, -1):
        if not any([chosen & more == chosen for more in found]) and not teller.some_told(chosen):
            found.append(chosen)
    return [indices_of(chosen) for chosen in found]


def touched(book, indices, path):
    """Tell whether the path's answer can be otherwise when only the kept answers at these indices are."""
    return not is_told(book.without(indices), path)


def asks(book, path):
    """Return the list of all pieces of the path with which one more in the book the path is told."""
    if not isinstance(book, Book) or book.manner != "any":
        raise BadBook(book)
    if not is_path("any", path):
        raise BadPath(path)
    pieces = _pieces(path)
    teller = Teller("any", book.kept() + pieces, [path])
    return [asked for at, asked in enumerate(pieces, len(book)) if teller.all_told(_all_of(book) | 1 << at)]


def check_paths(manner, paths):
    """Raise an error unless an object is a list of paths for the manner."""
    if not is_list(paths):
        raise BadPath(paths)
    for path in paths:
        if not is_path(manner, path):
            raise BadPath(path)


def indices_of(chosen):
    """Return the rising list of the indices that are the bits of a choice."""
    return [index for index in range(chosen.bit_length()) if chosen >> index & 1 == 1]


def _all_of(book):
    """Return the choice of all paths of a book."""
    return (1 << len(book)) - 1


def _pieces(path):
    """Return the list of all pieces of a path, each once, those with fewer steps first, then sorted."""
    many = len(steps(path))
    found = []
    for length in range(1, many + 1):
        found = found + sorted({piece(path, i, i + length) for i in range(many - length + 1)})
    return found
