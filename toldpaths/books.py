"""Books: lists of kept paths."""

from toldpaths.checks import is_below, is_list, is_manner
from toldpaths.errors import BadIndex, BadKept, BadManner
from toldpaths.paths import is_path

MOST_KEPT = 8


class Book:
    """At most eight unlike kept paths for a manner; it never changes."""

    def __init__(self, manner, kept):
        if not is_manner(manner):
            raise BadManner(manner)
        self.manner = manner
        self._kept = _taken_kept(manner, kept)

    def __eq__(self, other):
        return isinstance(other, Book) and self.manner == other.manner and self._kept == other._kept

    def __len__(self):
        return len(self._kept)

    def __iter__(self):
        return iter(self._kept)

    def kept(self):
        """Return the list of the kept paths."""
        return list(self._kept)

    def further(self, paths):
        """Return the book with further paths behind the others."""
        if not is_list(paths):
            raise BadKept(len(self._kept))
        return Book(self.manner, self._kept + list(paths))

    def without(self, indices):
        """Return the book without the paths at these indices."""
        if not is_list(indices):
            raise BadIndex(indices)
        left_out = []
        for index in indices:
            if not is_below(index, len(self._kept)) or index in left_out:
                raise BadIndex(index)
            left_out.append(index)
        return Book(self.manner, [path for at, path in enumerate(self._kept) if at not in left_out])


def _taken_kept(manner, kept):
    """Return a copy of a list of kept paths."""
    if not is_list(kept):
        raise BadKept(0)
    taken = []
    for index, path in enumerate(kept):
        if index >= MOST_KEPT or not is_path(manner, path) or path in taken:
            raise BadKept(index)
        taken.append(path)
    return taken
