"""Which choices of a menu tell which paths."""

from toldpaths.bridges import board_of
from toldpaths.rooms import is_home, rows_of_paths


class Teller:
    """Some paths, asked again and again which of them a choice of a menu tells.

    A choice is an integer whose bits are the indices of its paths in the menu.
    """

    def __init__(self, manner, menu, paths):
        self._turned = manner == "turned"
        self._menu = list(menu)
        self._paths = list(paths)
        # Where a kept path lies does not hang on the choice, so it is found out just once.
        self._boards = [] if self._turned else [board_of(manner, menu, path) for path in paths]

    def all_told(self, chosen):
        """Tell whether the choice tells all paths."""
        return self._search(chosen, False) is None

    def some_told(self, chosen):
        """Tell whether the choice tells one of the paths at least."""
        return self._search(chosen, True) is not None

    def _search(self, chosen, wanted):
        """Return the place of the first path that is told, or that is not, as is wanted, or None."""
        if self._turned:
            return self._search_turned(chosen, wanted)
        for at, board in enumerate(self._boards):
            if board.is_told(chosen) == wanted:
                return at
        return None

    def _search_turned(self, chosen, wanted):
        """Do the same for "turned"."""
        rows = rows_of_paths([path for index, path in enumerate(self._menu) if chosen >> index & 1 == 1])
        for at, path in enumerate(self._paths):
            if is_home(rows, path) == wanted:
                return at
        return None


def is_told_by(manner, kept, path):
    """Tell whether a list of kept paths tells a path."""
    return Teller(manner, kept, [path]).all_told((1 << len(kept)) - 1)
