"""Rooms joined by letters: the graphs of the groups that paths for "turned" make."""

from toldpaths.graphs import explored, led
from toldpaths.words import reduced_row


class Rooms:
    """Rooms, room 0 among them, of which two become one where a letter would lead to both."""

    def __init__(self):
        self._moves = [{}]
        # For each room one that it has become one with, for those that have not: itself.
        self._same = [0]

    def fresh(self):
        """Return a new room."""
        self._moves.append({})
        self._same.append(len(self._same))
        return len(self._same) - 1

    def link(self, room, letter, behind):
        """Let a letter lead from a room to another one, and the letter's back from there to it."""
        self._lead(room, letter, behind)
        self._lead(behind, letter.swapcase(), room)

    def thread(self, room, word, behind):
        """Let a word, or a list, of at least one letter lead from a room to another one."""
        for letter in word[:-1]:
            between = self.fresh()
            self.link(room, letter, between)
            room = between
        self.link(room, word[-1], behind)

    def put(self, rows, first):
        """Put rooms that are told by their rows behind the others, their room 0 as a room that is there."""
        names = [first] + [self.fresh() for _ in rows[1:]]
        for room, row in zip(names, rows):
            for letter, behind in row.items():
                self.link(room, letter, names[behind])

    def moves_from(self, room):
        """Return the list of the pairs (letter, room behind) of a room."""
        return [(letter, self.found(behind)) for letter, behind in self._moves[room].items()]

    def found(self, room):
        """Return the room that stands for all rooms which have become one with this one."""
        while self._same[room] != room:
            # Each room on the way is led further on, so that later ways are short.
            self._same[room] = self._same[self._same[room]]
            room = self._same[room]
        return room

    def rows(self):
        """Return the rows of the group that leads from room 0 to itself."""
        _, rows = explored(0, lambda room: self.moves_from(room))
        return numbered(_pruned(rows))

    def _lead(self, room, letter, behind):
        """Let a letter lead from a room to another one."""
        moves = self._moves[self.found(room)]
        if letter in moves:
            self._unite(moves[letter], behind)
        else:
            moves[letter] = behind

    def _unite(self, one, other):
        """Make two rooms one, and all that must become one with them."""
        pairs = [(one, other)]
        while pairs != []:
            one, other = pairs.pop()
            # The lesser one is kept, so that room 0 stays room 0.
            room, gone = sorted([self.found(one), self.found(other)])
            if room != gone:
                self._same[gone] = room
                moves = self._moves[room]
                for letter, behind in list(self._moves[gone].items()):
                    if letter in moves:
                        pairs.append((moves[letter], behind))
                    else:
                        moves[letter] = behind


def rows_of_paths(paths):
    """Return the rows of the group that paths for "turned" make."""
    rooms = Rooms()
    for path in paths:
        rooms.thread(0, path, 0)
    return rooms.rows()


def rows_of_both(one, other):
    """Return the rows of the group of the words that two groups have, by their rows."""
    _, rows = explored((0, 0), lambda pair: _moves_of_both(one[pair[0]], other[pair[1]]))
    return numbered(_pruned(rows))


def is_home(rows, word):
    """Tell whether the group with these rows has the reduced word of a word, or of a list of letters."""
    return led(rows, 0, reduced_row(word)) == 0


def numbered(rows):
    """Return rows whose rooms are numbered in the order in which they are first named."""
    _, moves = explored(0, lambda room: sorted(rows[room].items()))
    return moves


def _moves_of_both(one, other):
    """Return the pairs (letter, rooms behind) of the letters that two rooms have."""
    return [(letter, (one[letter], other[letter])) for letter in one if letter in other]


def _pruned(rows):
    """Return rows without the rooms, but for room 0, from which only the way back leads on."""
    left = [{letter: row[letter] for letter in row} for row in rows]
    ends = [room for room in range(1, len(left)) if len(left[room]) < 2]
    while ends != []:
        room = ends.pop()
        for letter, behind in list(left[room].items()):
            del left[behind][letter.swapcase()]
            if behind != 0 and len(left[behind]) < 2:
                ends.append(behind)
        left[room] = {}
    return left
