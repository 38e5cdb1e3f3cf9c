"""Links of two stores with worths that show that kept paths do not tell a path, in each reading."""

from toldpaths.bridges import board_of, hanging
from toldpaths.paths import marks, steps


def open_links(kept, path):
    """Return the number of things, the links of the one and of the other store, and the kinds of both.

    At each place of the path there are two things for each choice of its kinds there, at
    the ends for all of them alone. A thing that lacks an odd number of the kinds turns the
    two rows about. So a kept path with fewer kinds at an inner place leads to both rows
    equally often, straight on and turned about; all others that lead anywhere fit. In the
    other store the things of the places that hang together with the beginning change
    rows: only what leads between such a place and another one has another answer then.
    """
    taken = steps(path)
    kinds = marks(path)
    lacking = [[""]] + [_choices(mark) for mark in kinds[1:-1]] + [[""]]
    things = {}
    having = {}
    for place, mark in enumerate(kinds):
        for lacks in lacking[place]:
            for row in range(2):
                for kind in mark:
                    if kind not in lacks:
                        having.setdefault(kind, []).append(len(things))
                things[(place, lacks, row)] = len(things)
    reached = hanging(board_of("any", kept, path).bridges)
    straight = _links_between(taken, lacking, things, 0)
    return len(things), straight, _links_between(taken, lacking, things, reached), having


def _choices(mark):
    """Return the list of all strings of some kinds of a mark, from none to all."""
    found = [""]
    for kind in mark:
        found = found + [lacks + kind for lacks in found]
    return found


def _links_between(taken, lacking, things, crossing):
    """Return the links of the steps, with worths of 1; the places that change rows are the bits of crossing."""
    links = {step: [] for step in taken}
    for place, step in enumerate(taken):
        turn = (crossing >> place ^ crossing >> place + 1) & 1
        for lacks in lacking[place]:
            for row in range(2):
                behind = row ^ turn ^ len(lacks) & 1
                x = things[(place, lacks, row)]
                links[step].extend([(x, things[(place + 1, more, behind)], 1) for more in lacking[place + 1]])
    return links
