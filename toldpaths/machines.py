"""Machines: all told paths without kinds of a book, told by reading step after step."""

from toldpaths.automata import least_rows
from toldpaths.books import Book
from toldpaths.checks import DIGITS, is_list, is_number
from toldpaths.errors import BadBook, BadMachine, BadNumber, BadPiece
from toldpaths.graphs import explored, first_ways, led
from toldpaths.rooms import rows_of_paths
from toldpaths.words import is_word


class Machine:
    """The least machine with some strings; state 0 is its beginning."""

    def __init__(self, rows):
        self._ends = [is_end for is_end, _ in rows]
        self._moves = [dict(moves) for _, moves in rows]
        # For each number of letters so far asked for, the number of told strings from each state on.
        self._many = [[1 if is_end else 0 for is_end in self._ends]]

    def __eq__(self, other):
        return isinstance(other, Machine) and self._ends == other._ends and self._moves == other._moves

    def __len__(self):
        return len(self._ends)

    def rows(self):
        """Return the list with a pair (ends, moves) for each state."""
        return [(is_end, dict(moves)) for is_end, moves in zip(self._ends, self._moves)]

    def has(self, path):
        """Tell of any object whether it is a string that leads to an end."""
        if not is_word(path):
            return False
        state = led(self._moves, 0, path)
        return state is not None and self._ends[state]

    def count(self, n):
        """Return the number of told strings with just n letters."""
        if not _is_natural(n):
            raise BadNumber(n)
        return self._many_with(n)[0]

    def nth(self, n, i):
        """Return the told string number i, from 0 on, of those with just n letters, or None."""
        if not _is_natural(n):
            raise BadNumber(n)
        if not _is_natural(i):
            raise BadNumber(i)
        if i >= self._many_with(n)[0]:
            return None
        word = ""
        state = 0
        for left in range(n - 1, -1, -1):
            letter, i = self._letter_at(state, left, i)
            word = word + letter
            state = self._moves[state][letter]
        return word

    def first_lacking(self, other):
        """Return the first of the shortest strings that this machine has and the other one lacks, or None."""
        lacking = self.less(other)
        ways = first_ways(lacking._moves)
        # The states are numbered in the order of their first ways.
        for state, is_end in enumerate(lacking._ends):
            if is_end:
                return ways[state]
        return None

    def both(self, other):
        """Return the machine with the strings that both have."""
        return self._with(other, [(True, True)])

    def either(self, other):
        """Return the machine with the strings that at least one of both has."""
        return self._with(other, [(True, True), (True, False), (False, True)])

    def less(self, other):
        """Return the machine with the strings that this one has and the other one lacks."""
        return self._with(other, [(True, False)])

    def leads(self, pieces):
        """Tell whether the machine has the string of pieces."""
        _check_pieces(pieces)
        state, _ = self._read(pieces)
        return state is not None and self._ends[state]

    def ends_along(self, pieces):
        """Return the number of beginnings of the string of pieces that the machine has."""
        _check_pieces(pieces)
        _, many = self._read(pieces)
        return many

    def _many_with(self, n):
        """Return for each state the number of strings with n letters from it to an end."""
        while len(self._many) <= n:
            last = self._many[-1]
            self._many.append([sum([last[behind] for behind in row.values()]) for row in self._moves])
        return self._many[n]

    def _letter_at(self, state, left, i):
        """Return the first letter of string number i from a state on, and its number among those with this letter.

        left is the number of letters behind that one.
        """
        many = self._many_with(left)
        for letter, behind in self._moves[state].items():
            if i < many[behind]:
                return letter, i
            i = i - many[behind]
        return None

    def _with(self, other, wanted):
        """Return the machine of the strings whose pair, whether this and the other machine have it, is wanted."""
        if not isinstance(other, Machine):
            raise BadMachine(other)
        pairs, moves = explored((0, 0), lambda pair: self._moves_with(other, pair))
        ends = [(self._is_end(one), other._is_end(state)) in wanted for one, state in pairs]
        return Machine(least_rows(ends, moves))

    def _moves_with(self, other, pair):
        """Return the pairs (letter, states behind) of a state of this machine and one of another one."""
        one = self._moves_from(pair[0])
        two = other._moves_from(pair[1])
        return [(letter, (one.get(letter), two.get(letter))) for letter in sorted(set(list(one) + list(two)))]

    def _moves_from(self, state):
        """Return the moves of a state; None is behind strings that lead nowhere."""
        return {} if state is None else self._moves[state]

    def _is_end(self, state):
        """Tell whether a state ends a string."""
        return state is not None and self._ends[state]

    def _read(self, pieces):
        """Return the state behind the string of pieces, or None, and the number of its told beginnings."""
        state = 0
        many = 1 if self._ends[0] else 0
        for word, n in pieces:
            state, more = self._read_times(state, word, n)
            many = many + more
        return state, many

    def _read_times(self, state, word, n):
        """Return the state behind a word read n times, and the number of ends on the way."""
        many = 0
        # For each state ahead of a word: how many words and ends had been there then.
        seen = {}
        at = 0
        while at < n and state is not None:
            if state in seen:
                # From here on it goes round; rounds that are left whole need not be gone.
                words = at - seen[state][0]
                rounds = (n - at) // words
                many = many + rounds * (many - seen[state][1])
                at = at + rounds * words
                seen = {}
            if at < n:
                seen[state] = (at, many)
                state, more = self._read_once(state, word)
                many = many + more
                at = at + 1
        return state, many

    def _read_once(self, state, word):
        """Return the state behind a word, and the number of ends on the way."""
        many = 0
        for letter in word:
            if letter not in self._moves[state]:
                return None, many
            state = self._moves[state][letter]
            many = many + (1 if self._ends[state] else 0)
        return state, many


def machine(book):
    """Return the machine of all told paths without kinds of a book for "any" or "turned"."""
    if not isinstance(book, Book) or book.manner == "matched" or not _is_plain(book):
        raise BadBook(book)
    if book.manner == "any":
        return _machine_of_any(book.kept())
    return _machine_of_turned(book.kept())


def _is_natural(thing):
    """Tell whether an object is an integer from 0 on."""
    return is_number(thing) and thing >= 0


def _is_plain(book):
    """Tell whether no kept path of a book has kinds."""
    return all([sign not in DIGITS for path in book for sign in path])


def _check_pieces(pieces):
    """Raise an error unless an object is a list of pairs of a string of letters and an integer from 0 on."""
    if not is_list(pieces):
        raise BadPiece(0)
    for index, piece in enumerate(pieces):
        if not is_list(piece) or len(piece) != 2 or not is_word(piece[0]) or not _is_natural(piece[1]):
            raise BadPiece(index)


def _machine_of_any(kept):
    """Return the machine of kept paths for "any".

    A state has, for each place ahead from which the letters since begin a kept path, these
    letters and a number, which is the same for places that hang together by bridges; 0 is
    that of place 0. The place that has been come to is the last one.
    """
    letters = sorted({letter for path in kept for letter in path})
    begun = {path[:k]: True for path in kept for k in range(len(path))}
    begun[""] = True
    first = (("", 0),)
    states, moves = explored(first, lambda state: _moves_of_any(kept, begun, letters, state))
    return Machine(least_rows([state[-1][1] == 0 for state in states], moves))


def _moves_of_any(kept, begun, letters, state):
    """Return the pairs (letter, state behind), without states from which no told path can be ended."""
    behind = [(letter, _led_state(kept, begun, letter, state)) for letter in letters]
    return [(letter, longer) for letter, longer in behind if any([number == 0 for _, number in longer])]


def _led_state(kept, begun, letter, state):
    """Return the state behind a letter."""
    new = len(state) + 1
    longer = [(word + letter, number) for word, number in state]
    tied = [number for word, number in longer if word in kept]
    # All places from which a kept path leads to the new one hang together with it.
    together = min(tied + [new])
    left = [(word, together if number in tied else number) for word, number in longer if word in begun]
    return _renumbered(left + [("", together)])


def _renumbered(state):
    """Return a state with its numbers given anew, in the order in which they stand there; 0 stays 0."""
    names = {0: 0}
    return tuple([(word, names.setdefault(number, len(names))) for word, number in state])


def _machine_of_turned(kept):
    """Return the machine of the reduced paths in the group that kept paths for "turned" make.

    A state is a room and the letter that led there last, which must not be taken back.
    """
    rows = rows_of_paths(kept)
    states, moves = explored((0, ""), lambda state: _moves_of_turned(rows, state))
    return Machine(least_rows([state[0] == 0 for state in states], moves))


def _moves_of_turned(rows, state):
    """Return the pairs (letter, state behind) of a room and a last letter."""
    room, last = state
    return [(letter, (behind, letter)) for letter, behind in rows[room].items() if letter != last.swapcase()]
