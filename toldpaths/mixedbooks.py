"""Mixed books: lists of kept mixed paths."""

from toldpaths.books import MOST_KEPT
from toldpaths.bridges import cheapest, followed, hanging
from toldpaths.checks import is_list
from toldpaths.errors import BadKept, BadPath, BadPlan
from toldpaths.mixed import MixedStore, check_turned, is_mixed
from toldpaths.mixedboards import mixed_board, open_mixed
from toldpaths.plans import check_answers, found_by_places, is_answer, is_list_of_ways, known_things


class MixedBook:
    """At most eight unlike kept mixed paths for turned letters; it never changes."""

    def __init__(self, turned, kept):
        check_turned(turned)
        self.turned = turned
        self._kept = _taken_kept(turned, kept)

    def __eq__(self, other):
        return isinstance(other, MixedBook) and self.turned == other.turned and self._kept == other._kept

    def kept(self):
        """Return the list of the kept paths."""
        return list(self._kept)

    def is_plan(self, path, thing):
        """Tell of any object whether it is a plan for the path."""
        return self._places_of(path, thing) is not None

    def tells(self, path):
        """Tell whether the kept paths tell the path."""
        self._check(path)
        return _is_told(self.turned, self._kept, path)

    def verdict(self, path):
        """Return ("told", plan) with the cheapest plan, or ("open", one, other) with two stores that show it."""
        self._check(path)
        board, _ = mixed_board(self.turned, self._kept, path)
        plan = cheapest(board.bridges, 0, board.goal)
        if plan is not None:
            return "told", plan
        one, other = open_mixed(self.turned, self._kept, path)
        return "open", one, other

    def is_witness(self, path, one, other):
        """Tell of any two objects whether they are stores which show that the path is not told."""
        self._check(path)
        if not isinstance(one, MixedStore) or not isinstance(other, MixedStore):
            return False
        if one.turned != self.turned or other.turned != self.turned or one.many != other.many:
            return False
        if not all([one.answer(kept) == other.answer(kept) for kept in self._kept]):
            return False
        return one.answer(path) != other.answer(path)

    def carried(self, path, plan, answers):
        """Return the answer of the path that the plan finds from the kept answers alone."""
        places = self._places_of(path, plan)
        if places is None:
            raise BadPlan(plan)
        check_answers(len(self._kept), answers, is_answer)
        known = known_things(answers)
        having = {x: True for x in known}
        return found_by_places(known, [having] * len(places), plan, answers)

    def needless(self):
        """Return the rising list of the indices of all kept paths that the others tell."""
        return [index for index, path in enumerate(self._kept)
                if _is_told(self.turned, self._kept[:index] + self._kept[index + 1:], path)]

    def _check(self, path):
        """Raise an error unless an object is a mixed path for the book."""
        if not is_mixed(self.turned, path):
            raise BadPath(path)

    def _places_of(self, path, thing):
        """Return the list of the places that a plan for the path comes to, or None if an object is none."""
        self._check(path)
        if not is_list_of_ways(len(self._kept), thing):
            return None
        board, _ = mixed_board(self.turned, self._kept, path)
        return followed(board, thing)


def _taken_kept(turned, kept):
    """Return a copy of a list of kept paths."""
    if not is_list(kept):
        raise BadKept(0)
    taken = []
    for index, path in enumerate(kept):
        if index >= MOST_KEPT or not is_mixed(turned, path) or path in taken:
            raise BadKept(index)
        taken.append(path)
    return taken


def _is_told(turned, kept, path):
    """Tell whether a list of kept paths tells a path."""
    board, _ = mixed_board(turned, kept, path)
    return hanging(board.bridges) >> board.goal & 1 == 1
