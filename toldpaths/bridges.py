"""Bridges: where kept paths lie on the places of a path, for "any" and "matched"."""

from heapq import heappop, heappush

from toldpaths.paths import marks, reduced, steps, tree
from toldpaths.words import stepped


class Bridge:
    """The kept path with this index, from a place to another one.

    cover has the places that must be there for it, as the bits of an integer.
    """

    def __init__(self, index, start, end, cover):
        self.index = index
        self.start = start
        self.end = end
        self.cover = cover


class Board:
    """The places of a path, numbered from 0 for its beginning, with all bridges on them.

    goal is the place of its end; whole has the places that bridges must cover, as bits.
    """

    def __init__(self, goal, whole, bridges):
        self.goal = goal
        self.whole = whole
        self.bridges = bridges

    def is_told(self, chosen):
        """Tell whether the kept paths whose indices are the bits of chosen tell the path."""
        bridges = [bridge for bridge in self.bridges if chosen >> bridge.index & 1 == 1]
        reached = hanging(bridges)
        return reached >> self.goal & 1 == 1 and covered(bridges, reached) == self.whole


def board_of(manner, kept, path):
    """Return the board of a path with the bridges of a list of kept paths."""
    if manner == "any":
        return _line_board(kept, path)
    return _tree_board(kept, path)


def hanging(bridges):
    """Return the places that hang together with place 0 by bridges, as bits."""
    reached = 1
    before = 0
    while reached != before:
        before = reached
        for bridge in bridges:
            ends = 1 << bridge.start | 1 << bridge.end
            if reached & ends != 0:
                reached = reached | ends
    return reached


def covered(bridges, reached):
    """Return the places that are covered by the bridges which begin at places reached, as bits."""
    cover = 0
    for bridge in bridges:
        if reached >> bridge.start & 1 == 1:
            cover = cover | bridge.cover
    return cover


def followed(board, plan):
    """Return the list of the places that a plan comes to, or None if it is none for the path."""
    onward = {(bridge.index, bridge.start): bridge for bridge in board.bridges}
    backward = {(bridge.index, bridge.end): bridge for bridge in board.bridges}
    places = [0]
    cover = 0
    for index, way in plan:
        bridges = onward if way == "on" else backward
        if (index, places[-1]) not in bridges:
            return None
        bridge = bridges[(index, places[-1])]
        places.append(bridge.end if way == "on" else bridge.start)
        cover = cover | bridge.cover
    if places[-1] != board.goal or cover != board.whole:
        return None
    return places


def cheapest(bridges, place, goal):
    """Return the plan from a place to another one with the fewest "back", then the fewest pairs.

    None if they do not hang together.
    """
    done = {}
    queue = [(0, 0, place, [])]
    while queue != []:
        backs, many, place, plan = heappop(queue)
        if place == goal:
            return plan
        if place in done:
            continue
        done[place] = True
        for bridge in bridges:
            if bridge.start == place:
                heappush(queue, (backs, many + 1, bridge.end, plan + [(bridge.index, "on")]))
            if bridge.end == place:
                heappush(queue, (backs + 1, many + 1, bridge.start, plan + [(bridge.index, "back")]))
    return None


def plan_on(board):
    """Return a plan for a path that is told, by its board; the cheapest where nothing is to be covered."""
    reached = hanging(board.bridges)
    bridges = [bridge for bridge in board.bridges if reached >> bridge.start & 1 == 1]
    plan = []
    place = 0
    cover = 0
    for bridge in bridges:
        # "any" has no cover, so that no bridge is gone but for the way to the goal.
        if cover | bridge.cover != cover:
            plan = plan + cheapest(bridges, place, bridge.start) + [(bridge.index, "on")]
            place = bridge.end
            cover = cover | bridge.cover
    return plan + cheapest(bridges, place, board.goal)


def _line_board(kept, path):
    """Return the board of a path for "any": its places in a line, none of which must be covered."""
    taken = steps(path)
    kinds = marks(path)
    bridges = []
    for index, other in enumerate(kept):
        own = steps(other)
        own_kinds = marks(other)
        for start in range(len(taken) - len(own) + 1):
            end = start + len(own)
            if own == taken[start:end] and _fit(own_kinds, kinds[start:end + 1]):
                bridges.append(Bridge(index, start, end, 0))
    return Board(len(taken), 0, bridges)


def _fit(own_kinds, kinds):
    """Tell whether the kinds of a kept path fit on those of a piece."""
    return (own_kinds[1:-1] == kinds[1:-1] and _is_within(own_kinds[0], kinds[0])
            and _is_within(own_kinds[-1], kinds[-1]))


def _is_within(some, others):
    """Tell whether all signs of a string stand in another one."""
    return all([sign in others for sign in some])


def _tree_board(kept, path):
    """Return the board of a path for "matched": the places of its tree, all of which must be covered."""
    words = tree(path)
    places = {word: place for place, word in enumerate(words)}
    bridges = []
    for index, other in enumerate(kept):
        for word in words:
            gone = _laid(places, word, other)
            if gone != []:
                bridges.append(Bridge(index, gone[0], gone[-1], sum([1 << place for place in sorted(set(gone))])))
    return Board(places[reduced(path)], (1 << len(words)) - 1, bridges)


def _laid(places, word, path):
    """Return the list of the places that a path comes to from a word on, or [] if it leaves the tree."""
    gone = [places[word]]
    for step in path:
        word = stepped(word, step)
        if word not in places:
            return []
        gone.append(places[word])
    return gone
