"""Logs: answers that are kept while links change."""

from toldpaths.books import MOST_KEPT
from toldpaths.checks import SMALL, is_below, is_manner, is_sign_of
from toldpaths.choices import check_paths, indices_of
from toldpaths.errors import BadLetter, BadManner, BadMoment, BadPath, FullDesk
from toldpaths.moments import is_told_at, signs_at
from toldpaths.paths import is_path

MOST_CHANGES = 12


class Log:
    """The answers of at most eight paths, each kept at a moment, between at most twelve changes of links."""

    def __init__(self, manner):
        if not is_manner(manner):
            raise BadManner(manner)
        self._manner = manner
        self._kept = []
        self._changed = []
        # For each keep and change, in order, whether it is a keep.
        self._keeps = []

    def keep(self, path):
        """Keep the answer that a path has at present."""
        if not is_path(self._manner, path):
            raise BadPath(path)
        if len(self._kept) >= MOST_KEPT:
            raise FullDesk()
        self._kept.append((path, len(self._changed)))
        self._keeps.append(True)

    def change(self, letter):
        """Let the link of a letter be another one from now on."""
        if not is_sign_of(letter, SMALL):
            raise BadLetter(letter)
        if len(self._changed) >= MOST_CHANGES:
            raise FullDesk()
        self._changed.append(letter)
        self._keeps.append(False)

    def undo(self):
        """Take back the last keep or change and return True, or return False if there is none."""
        if self._keeps == []:
            return False
        if self._keeps.pop():
            self._kept.pop()
        else:
            self._changed.pop()
        return True

    def now(self):
        """Return the number of changes so far."""
        return len(self._changed)

    def kept(self):
        """Return the list of the pairs (path, moment) that are kept."""
        return list(self._kept)

    def tells(self, path, moment=None):
        """Tell whether the kept answers tell the answer that a path has at a moment, or at present."""
        if not is_path(self._manner, path):
            raise BadPath(path)
        if moment is None:
            moment = self.now()
        elif not is_below(moment, self.now() + 1):
            raise BadMoment(moment)
        return is_told_at(self._manner, self._kept_rows(), signs_at(path, self._changed[:moment]))

    def anew(self, wishes):
        """Return all least lists of indices of kept paths that tell all wishes if they are kept anew at present."""
        check_paths(self._manner, wishes)
        kept = self._kept_rows()
        present = [signs_at(path, self._changed) for path, _ in self._kept]
        asked = [signs_at(path, self._changed) for path in wishes]
        found = []
        for chosen in range(1 << len(present)):
            if not any([chosen & fewer == fewer for fewer in found]):
                known = kept + [present[index] for index in indices_of(chosen)]
                if all([is_told_at(self._manner, known, row) for row in asked]):
                    found.append(chosen)
        return [indices_of(chosen) for chosen in found]

    def _kept_rows(self):
        """Return the rows of signs of the kept paths at their moments."""
        return [signs_at(path, self._changed[:moment]) for path, moment in self._kept]
