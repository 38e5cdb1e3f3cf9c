"""What can be come to, letter by letter, from a first state."""


def explored(first, follow):
    """Return the states that can be come to from the first one, and the moves between them.

    follow(state) is the list of the pairs (letter, state behind) in the order of the
    letters. The states are numbered in the order in which they are first named, letter by
    letter; the moves are a dict from letters to numbers for each state.
    """
    return explored_from([first], follow)


def explored_from(firsts, follow):
    """Do the same from several unlike states, which are numbered ahead of all others."""
    numbers = {state: number for number, state in enumerate(firsts)}
    states = list(firsts)
    moves = []
    while len(moves) < len(states):
        row = {}
        onward = follow(states[len(moves)])
        for letter, behind in onward:
            if behind not in numbers:
                numbers[behind] = len(states)
                states.append(behind)
            row[letter] = numbers[behind]
        moves.append(row)
    return states, moves


def first_ways(moves):
    """Return for each state the shortest word that leads to it from state 0, the first of these.

    The states are numbered in the order in which they are first named, as explored does it.
    """
    ways = [""]
    for at, row in enumerate(moves):
        for letter, behind in row.items():
            if behind == len(ways):
                ways.append(ways[at] + letter)
    return ways


def led(moves, state, word):
    """Return the state to which a word leads from a state, or None."""
    for letter in word:
        if letter not in moves[state]:
            return None
        state = moves[state][letter]
    return state


def made_full(moves, letter):
    """Return for each state the one to which a letter leads, made up where it leads to none.

    The moves are such that a letter leads from a state to another one just if the letter of
    the other size leads back; what is made up is so, too.
    """
    free = [state for state, row in enumerate(moves) if letter.swapcase() not in row]
    behind = []
    for row in moves:
        behind.append(row[letter] if letter in row else free.pop())
    return behind
