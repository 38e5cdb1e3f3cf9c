"""Machines as rows: for each state whether it ends a string, and its moves."""

from toldpaths.graphs import explored


def least_rows(ends, moves):
    """Return the rows of the least machine that has the same strings.

    ends tells for each state whether it ends a string; moves is a dict from letters to
    states for each; state 0 is the beginning, and each state can be come to.
    """
    live = _live(ends, moves)
    if 0 not in live:
        return [(False, {})]
    left = [{letter: row[letter] for letter in sorted(row) if row[letter] in live} for row in moves]
    classes = _classes(ends, left, live)
    member = {classes[state]: state for state in live}
    order, numbered = explored(classes[0], lambda number: _class_moves(classes, left[member[number]]))
    return [(ends[member[number]], row) for number, row in zip(order, numbered)]


def _live(ends, moves):
    """Return a dict that has just the states from which some string can be ended as its keys."""
    ahead = [[] for _ in moves]
    for state, row in enumerate(moves):
        for behind in row.values():
            ahead[behind].append(state)
    found = [state for state, is_end in enumerate(ends) if is_end]
    live = {state: True for state in found}
    while found != []:
        last = found.pop()
        for state in ahead[last]:
            if state not in live:
                live[state] = True
                found.append(state)
    return live


def _classes(ends, moves, live):
    """Return a dict from the live states to numbers, equal for those with equal strings behind."""
    classes = {state: 1 if ends[state] else 0 for state in live}
    many = 0
    now = len(set(list(classes.values())))
    while now != many:
        many = now
        numbers = {}
        finer = {}
        for state in live:
            # Being an end is told by the class so far.
            told = (classes[state], tuple([(letter, classes[behind]) for letter, behind in moves[state].items()]))
            finer[state] = numbers.setdefault(told, len(numbers))
        classes = finer
        now = len(numbers)
    return classes


def _class_moves(classes, row):
    """Return the pairs (letter, class behind) of the moves of a state."""
    return [(letter, classes[behind]) for letter, behind in row.items()]
