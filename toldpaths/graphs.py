"""What can be come to, letter by letter, from a first state."""


def explored(first, follow):
    """Return the states that can be come to from the first one, and the moves between them.

    follow(state) is the list of the pairs (letter, state behind) in the order of the
    letters. The states are numbered in the order in which they are first named, letter by
    letter; the moves are a dict from letters to numbers for each state.
    """
    numbers = {first: 0}
    states = [first]
    moves = []
    while len(moves) < len(states):
        row = {}
        onward = follow(states[len(moves)])
        for letter, behind in onward:
            if behind not in numbers:
                numbers[behind] = len(states)
                states.append(behind)
            row[letter] = numbers[behind]
        moves.append(row)
    return states, moves


def first_ways(moves):
    """Return for each state the shortest word that leads to it from state 0, the first of these.

    The states are numbered in the order in which they are first named, as explored does it.
    """
    ways = [""]
    for at, row in enumerate(moves):
        for letter, behind in row.items():
            if behind == len(ways):
                ways.append(ways[at] + letter)
    return ways


def led(moves, state, word):
    """Return the state to which a word leads from a state, or None."""
    for letter in word:
        if letter not in moves[state]:
            return None
        state = moves[state][letter]
    return state
