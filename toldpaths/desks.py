"""Desks: live books."""

from toldpaths.books import MOST_KEPT, Book
from toldpaths.errors import BadPath, FullDesk
from toldpaths.paths import is_path
from toldpaths.tells import is_told


class Desk:
    """A live book for a manner, empty at first."""

    def __init__(self, manner):
        self._book = Book(manner, [])

    def keep(self, path):
        """Put a path behind the others, and return whether it was told already."""
        if not is_path(self._book.manner, path) or path in self._book.kept():
            raise BadPath(path)
        if len(self._book) >= MOST_KEPT:
            raise FullDesk()
        was_told = is_told(self._book, path)
        self._book = self._book.further([path])
        return was_told

    def tells(self, path):
        """Tell whether a path is told at present."""
        return is_told(self._book, path)

    def undo(self):
        """Take back the last kept path and return True, or return False if there is none."""
        many = len(self._book)
        if many == 0:
            return False
        self._book = self._book.without([many - 1])
        return True

    def now(self):
        """Return the book as it is."""
        return self._book
