"""Pairs of stores with equal kept answers and unlike answers for a path that is not told."""

from toldpaths.bridges import board_of, covered, hanging
from toldpaths.graphs import made_full
from toldpaths.paths import marks, steps, tree
from toldpaths.rooms import rows_of_paths
from toldpaths.stores import Store


def open_stores(manner, kept, path):
    """Return two stores which show that the kept paths do not tell the path."""
    if manner == "any":
        return _open_any(kept, path)
    if manner == "matched":
        return _open_matched(kept, path)
    return _open_turned(kept, path)


def _open_any(kept, path):
    """Return the two stores for "any".

    Both have two rows of things, one for each place of the path, with its kinds there. A
    step leads straight on; in the second store it leads to the other row where just one
    of its ends hangs together with place 0, so that answers between places that hang
    together are the same, and the path's own is not. Kept paths that have fewer kinds at
    an inner place than the path has come to both rows by further things, which have all
    kinds of a place but one, and which the path cannot use.
    """
    taken = steps(path)
    kinds = marks(path)
    reached = hanging(board_of("any", kept, path).bridges)
    further = [(place, kind) for place in range(1, len(taken)) for kind in kinds[place]]
    many = 2 * len(kinds) + len(further)
    things = [[2 * place, 2 * place + 1] for place in range(len(kinds))]
    having = {}
    for place, mark in enumerate(kinds):
        for kind in mark:
            having[kind] = having.get(kind, []) + things[place]
    for thing, (place, lacking) in enumerate(further, 2 * len(kinds)):
        things[place].append(thing)
        for kind in kinds[place]:
            if kind != lacking:
                having[kind] = having[kind] + [thing]
    straight = _links_in_rows(taken, things, 0)
    return Store("any", many, straight, having), Store("any", many, _links_in_rows(taken, things, reached), having)


def _links_in_rows(taken, things, crossing):
    """Return the links of the steps between the things of the places.

    At each place the first two things are those of the two rows; all further ones are
    linked with all. crossing has the places that are turned about, as bits.
    """
    links = {step: [] for step in taken}
    for place, step in enumerate(taken):
        ahead = things[place]
        behind = things[place + 1]
        turn = (crossing >> place ^ crossing >> place + 1) & 1
        for row in range(2):
            links[step].append((ahead[row], behind[row ^ turn]))
        links[step].extend([(x, y) for x in ahead for y in behind if x in ahead[2:] or y in behind[2:]])
    return links


def _open_matched(kept, path):
    """Return the two stores for "matched".

    Both have the path's tree, and beside it the part of the tree that is covered by what
    hangs together with the beginning. In the second store the things that hang together
    with the beginning change places with their like in that part: no kept answer tells
    this, and the path's answer does.
    """
    words = tree(path)
    bridges = board_of("matched", kept, path).bridges
    reached = hanging(bridges)
    part = [place for place in range(len(words)) if (covered(bridges, reached) | 1) >> place & 1 == 1]
    names = {place: len(words) + at for at, place in enumerate(part)}
    straight = (list(range(len(words))), names)
    crossed = _changed(straight, reached)
    many = len(words) + len(part)
    return _trees(many, words, straight), _trees(many, words, crossed)


def _changed(names, reached):
    """Return the names of the things of a tree and of a part of it, with those reached changed about."""
    whole, part = names
    changed = [part[place] if reached >> place & 1 == 1 else thing for place, thing in enumerate(whole)]
    return changed, {place: whole[place] if reached >> place & 1 == 1 else thing for place, thing in part.items()}


def _trees(many, words, names):
    """Return the store of a tree and of a part of it, with these names of the things."""
    whole, part = names
    places = {word: place for place, word in enumerate(words)}
    links = {}
    for word in words[1:]:
        behind = places[word]
        ahead = places[word[:-1]]
        _link(links, word[-1], whole[ahead], whole[behind])
        if behind in part:
            _link(links, word[-1], part[ahead], part[behind])
    return Store("matched", many, links)


def _link(links, step, x, y):
    """Put the pair into the links along which a step leads from x to y."""
    pair = (x, y) if step.islower() else (y, x)
    links[step.lower()] = links.get(step.lower(), []) + [pair]


def _open_turned(kept, path):
    """Return the two stores for "turned".

    Both have twice the rooms of the kept paths' group, led on by the path, with all
    letters made full. All kept paths lead from room 0 to itself, so that the two rooms 0
    can change places without a change of their answers; but the path leads elsewhere.
    """
    rows = _rows_with(rows_of_paths(kept), path)
    many = len(rows)
    straight = list(range(2 * many))
    crossed = list(straight)
    crossed[0] = many
    crossed[many] = 0
    return _turned_store(rows, straight), _turned_store(rows, crossed)


def _rows_with(rows, path):
    """Return rows in which a path leads on from room 0, by new rooms where it must."""
    longer = [dict(row) for row in rows]
    room = 0
    for letter in path:
        if letter not in longer[room]:
            longer[room][letter] = len(longer)
            longer.append({letter.swapcase(): room})
        room = longer[room][letter]
    return longer


def _turned_store(rows, names):
    """Return the store of twice these rows, with these names of the things."""
    many = len(rows)
    letters = sorted({letter.lower() for row in rows for letter in row})
    links = {}
    for letter in letters:
        behind = made_full(rows, letter)
        links[letter] = [(names[x + begin], names[behind[x] + begin]) for begin in (0, many) for x in range(many)]
    return Store("turned", 2 * many, links)
