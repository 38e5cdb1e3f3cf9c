"""Plans for "turned": how a path is made of kept paths and their backs."""

from heapq import heappop, heappush

from toldpaths.words import reduced_word, word_back


def turned_plan(kept, path):
    """Return a plan for a path for "turned", or None if there is none.

    The kept paths are laid out as rounds that begin and end at corner 0. A path is told
    just if some way along the rounds, from corner 0 to itself, reduces to it: letter by
    letter, with ways that reduce to nothing ahead of each letter and at the end.
    """
    corners = corners_along(1, [(path, 0, 0) for path in kept])
    nothing = ways_of_nothing(corners)
    plans = _with_nothing(nothing, {0: []})
    for letter in reduced_word(path):
        plans = _with_nothing(nothing, _with_letter(corners, letter, plans))
    return plans.get(0)


def plan_word(kept, plan):
    """Return the reduced word of the kept paths and their backs in the order of a plan."""
    return reduced_word("".join([kept[index] if way == "on" else word_back(kept[index]) for index, way in plan]))


def corners_along(many, threads):
    """Return for each corner the list of its triples (letter, plan, corner behind).

    threads is a list of triples (path, one, other): a path that leads from one of the first
    corners, as many as are told, to another one, by corners of its own. The plan is what
    going that edge adds: a pair at the first edge of a thread, where no other edge of it is
    gone without that one unless the way turns back.
    """
    corners = [[] for _ in range(many)]
    for index, (path, one, other) in enumerate(threads):
        at = one
        for step in range(len(path)):
            behind = other if step == len(path) - 1 else len(corners)
            if behind == len(corners):
                corners.append([])
            corners[at].append((path[step], [(index, "on")] if step == 0 else [], behind))
            corners[behind].append((path[step].swapcase(), [(index, "back")] if step == 0 else [], at))
            at = behind
    return corners


def ways_of_nothing(corners):
    """Return a plan of few pairs for each pair of corners joined by a way that reduces to nothing."""
    plans = {}
    queue = [(0, corner, corner, []) for corner in range(len(corners))]
    while queue != []:
        _, one, other, plan = heappop(queue)
        if (one, other) not in plans:
            plans[(one, other)] = plan
            for ahead, behind, parts in _longer_ways(corners, plans, one, other):
                if (ahead, behind) not in plans:
                    longer = _added(_added(parts[0], parts[1]), parts[2])
                    heappush(queue, (len(longer), ahead, behind, longer))
    return plans


def _longer_ways(corners, plans, one, other):
    """Return all ways made of the one between two corners and two edges, or one more way: their three parts."""
    plan = plans[(one, other)]
    longer = []
    for letter, first, ahead in corners[one]:
        for same, last, behind in corners[other]:
            if same == letter:
                longer.append((ahead, behind, (_plan_back(first), plan, last)))
    for (ahead, behind), more in plans.items():
        if behind == one:
            longer.append((ahead, other, (more, plan, [])))
        if ahead == other:
            longer.append((one, behind, (plan, more, [])))
    return longer


def _with_nothing(nothing, plans):
    """Return the shortest plans to corners, by plans to corners and then ways of nothing."""
    found = {}
    for (corner, behind), more in nothing.items():
        if corner in plans:
            _keep_shorter(found, behind, _added(plans[corner], more))
    return found


def _with_letter(corners, letter, plans):
    """Return the shortest plans to corners, by plans to corners and then a letter."""
    found = {}
    for corner, plan in plans.items():
        for same, more, behind in corners[corner]:
            if same == letter:
                _keep_shorter(found, behind, _added(plan, more))
    return found


def _keep_shorter(plans, corner, plan):
    """Keep a plan for a corner, if there is none yet that is as short."""
    if corner not in plans or len(plan) < len(plans[corner]):
        plans[corner] = plan


def _added(plan, more):
    """Return a plan and then another one, without pairs that undo one another where they meet."""
    meeting = 0
    while meeting < min(len(plan), len(more)) and _undoes(plan[len(plan) - 1 - meeting], more[meeting]):
        meeting += 1
    return plan[:len(plan) - meeting] + more[meeting:]


def _undoes(one, other):
    """Tell whether two pairs of a plan go the same kept path on and back."""
    return one[0] == other[0] and one[1] != other[1]


def _plan_back(plan):
    """Return a plan gone backward."""
    return [(index, "back" if way == "on" else "on") for index, way in plan[::-1]]
