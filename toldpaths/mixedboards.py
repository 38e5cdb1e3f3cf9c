"""Where kept paths lie on a mixed path, and stores that show that they do not tell it."""

from toldpaths.bridges import Board, Bridge, hanging
from toldpaths.graphs import made_full
from toldpaths.mixed import MixedStore, form
from toldpaths.words import reduced_word, word_back


def mixed_board(turned, kept, path):
    """Return the board of a mixed path, and the dict from its places (i, word) to their numbers.

    Place 0 is the path's beginning; the board has no places that bridges must cover.
    """
    own = form(turned, path)
    last = len(own) // 2
    places = {(0, ""): 0}
    bridges = []
    for index, other in enumerate(kept):
        laid = form(turned, other)
        for i in _places_where(own, laid):
            ahead = (i, reduced_word(own[2 * i] + word_back(laid[0])))
            behind = (i + len(laid) // 2, laid[-1])
            start = places.setdefault(ahead, len(places))
            end = places.setdefault(behind, len(places))
            bridges.append(Bridge(index, start, end, 0))
    goal = places.setdefault((last, own[-1]), len(places))
    return Board(goal, 0, bridges), places


def open_mixed(turned, kept, path):
    """Return two stores which show that the kept paths do not tell the mixed path.

    Both have two rows of things. For each number i of the path's letters that are not
    turned there is a tree of words in each row, those that can matter behind so many of
    these letters, within which all turned letters are made full. Another letter leads just
    from where the path leaves one tree to the beginning of the next one. So a kept path
    leads from place to place just where it fits. In the other store the things of the
    places that hang together with the beginning change rows.
    """
    own = form(turned, path)
    board, places = mixed_board(turned, kept, path)
    reached = hanging(board.bridges)
    trees = _trees(own, [form(turned, other) for other in kept], places)
    things = {}
    for i, tree in enumerate(trees):
        for word in tree:
            things[(i, word)] = len(things)
    many = len(things)
    straight = list(range(2 * many))
    crossed = list(straight)
    for place, number in places.items():
        if reached >> number & 1 == 1:
            at = things[place]
            crossed[at] = at + many
            crossed[at + many] = at
    links = _links_of(turned, own, trees, things)
    return _store_of(turned, links, straight), _store_of(turned, links, crossed)


def _places_where(own, laid):
    """Return the list of the numbers at which a form fits on the path's own form."""
    length = len(laid) - 2
    return [i for i in range(len(own) // 2) if own[2 * i + 1:2 * i + 1 + length] == laid[1:-1]]


def _trees(own, others, places):
    """Return for each number i the list of all words that can matter there, and of all their beginnings.

    These are the words of places, and the inner ones both of the path and of kept paths,
    which must not lead to one thing if they are unlike.
    """
    last = len(own) // 2
    needed = [[own[2 * i]] for i in range(last + 1)]
    for i, word in places:
        needed[i].append(word)
    for i in range(1, last):
        for laid in others:
            needed[i].extend([laid[at] for at in range(2, len(laid) - 1, 2)
                              if laid[at - 1] == own[2 * i - 1] and laid[at + 1] == own[2 * i + 1]])
    return [sorted({word[:length] for word in words for length in range(len(word) + 1)}) for words in needed]


def _links_of(turned, own, trees, things):
    """Return the links of one row: for each letter the list of pairs of things."""
    links = {letter: [] for letter in turned}
    for i, tree in enumerate(trees):
        moves = _moves_in(tree)
        first = things[(i, tree[0])]
        for letter in turned:
            links[letter].extend([(first + at, first + behind) for at, behind in enumerate(made_full(moves, letter))])
    for i in range(len(trees) - 1):
        pair = (things[(i, own[2 * i])], things[(i + 1, "")])
        links.setdefault(own[2 * i + 1], []).append(pair)
    return links


def _moves_in(tree):
    """Return for each word of a tree the moves to the words that are one letter longer or shorter."""
    numbers = {word: at for at, word in enumerate(tree)}
    moves = [{} for _ in tree]
    for word, at in numbers.items():
        if word != "":
            ahead = numbers[word[:-1]]
            moves[ahead][word[-1]] = at
            moves[at][word[-1].swapcase()] = ahead
    return moves


def _store_of(turned, links, names):
    """Return the store of two rows with these links, with these names of the things."""
    many = len(names) // 2
    named = {letter: [(names[x + begin], names[y + begin]) for x, y in pairs for begin in (0, many)]
             for letter, pairs in links.items()}
    return MixedStore(turned, 2 * many, named)
