"""Groups: what paths for "turned" make together with their backs."""

from toldpaths.checks import SMALL, has_twice, is_list
from toldpaths.errors import BadGroup, BadKept, BadLetter, BadPath
from toldpaths.graphs import first_ways, led
from toldpaths.paths import is_path
from toldpaths.rooms import Rooms, is_home, rows_of_both, rows_of_paths
from toldpaths.words import is_word, reduced_word, word_back


class Group:
    """All reduced strings of paths and backs of paths one behind the other."""

    def __init__(self, paths):
        if not is_list(paths):
            raise BadKept(0)
        for index, path in enumerate(paths):
            if not is_path("turned", path):
                raise BadKept(index)
        self._rows = rows_of_paths(paths)

    def __eq__(self, other):
        return isinstance(other, Group) and self._rows == other._rows

    def __len__(self):
        return len(self._rows)

    def has(self, path):
        """Tell of any object whether it is a string of letters whose reduced string is in the group."""
        return is_word(path) and is_home(self._rows, path)

    def rows(self):
        """Return the list with a dict from letters to rooms for each room."""
        return [dict(row) for row in self._rows]

    def rank(self):
        """Return the number of edges less the number of rooms, plus one."""
        return len(self._edges()) - len(self._rows) + 1

    def cosets(self, letters):
        """Return the number of rooms if each has all these letters, small and capital ones, or None."""
        if not _are_small_letters(letters) or not all([edge[1] in letters for edge in self._edges()]):
            raise BadLetter(letters)
        if all([letter in row and letter.upper() in row for row in self._rows for letter in letters]):
            return len(self._rows)
        return None

    def basis(self):
        """Return the list of rank() reduced strings that make the group, one for each edge off the first ways."""
        ways = first_ways(self._rows)
        words = [reduced_word(ways[room] + letter + word_back(ways[behind])) for room, letter, behind in self._edges()]
        return [word for word in words if word != ""]

    def both(self, other):
        """Return the group of all strings that both groups have."""
        if not isinstance(other, Group):
            raise BadGroup(other)
        return _group_with(rows_of_both(self._rows, other._rows))

    def joined(self, other):
        """Return the group that the strings of both groups make."""
        if not isinstance(other, Group):
            raise BadGroup(other)
        rooms = Rooms()
        rooms.put(self._rows, 0)
        rooms.put(other._rows, 0)
        return _group_with(rooms.rows())

    def turned_by(self, path):
        """Return the group of the back of the path, a string of the group, and the path."""
        if not is_path("turned", path):
            raise BadPath(path)
        rooms = Rooms()
        first = rooms.fresh()
        rooms.put(self._rows, first)
        rooms.thread(0, word_back(path), first)
        return _group_with(rooms.rows())

    def power(self, path):
        """Return the least number from 1 on of times that the path is in the group, or None."""
        if not is_path("turned", path):
            raise BadPath(path)
        ahead, core = _split(reduced_word(path))
        # However often the core is gone, ahead and its back stand around it: the path so
        # many times is in the group just if the core leads round to the room behind ahead.
        first = led(self._rows, 0, ahead)
        if first is None:
            return None
        times = 1
        room = led(self._rows, first, core)
        while room is not None and room != first:
            times = times + 1
            room = led(self._rows, room, core)
        return None if room is None else times

    def _edges(self):
        """Return the list of the triples (room, small letter, room behind), in order."""
        return [(room, letter, behind) for room, row in enumerate(self._rows)
                for letter, behind in row.items() if letter.islower()]


def _group_with(rows):
    """Return the group with these rows."""
    group = Group([])
    group._rows = rows
    return group


def _are_small_letters(thing):
    """Tell whether an object is a string of unlike small letters, perhaps empty."""
    return isinstance(thing, str) and all([letter in SMALL for letter in thing]) and not has_twice(thing)


def _split(word):
    """Return the words of which a reduced word consists: one, a core, and the back of the one.

    The core does not end with the back of its first letter.
    """
    cut = 0
    while cut < len(word) - 1 - cut and word[cut] == word[len(word) - 1 - cut].swapcase():
        cut += 1
    return word[:cut], word[cut:len(word) - cut]
