"""What several tests use: errors that are raised, and paths, stores and books for trying out."""

import itertools

from toldpaths.books import Book
from toldpaths.paths import back, marks, piece, reduced, steps, tree
from toldpaths.stores import Store

MANNERS = ("any", "matched", "turned")

# What is no list, and no string either.
NO_LISTS = [None, True, False, 0, 7, {}, {0: "a"}, b"a", 1.5]

# What is no path of any manner.
NO_PATHS = ["", "1", "a21", "a11", "a b", "a\n", "\u00e4", "1A", "a1B", None, True, 0, 3, ["a"], ("a", "b"), [], {},
            {"a": 1}, b"a", Store("any", 1, {})]

# What is no integer from 0 on.
NO_NUMBERS = [True, False, None, -1, -10 ** 20, "0", "", [0], (), {}, 1.0, Store("any", 1, {})]


def raised(error, call, *told, **named):
    """Return the error of just this class that the call raises."""
    try:
        found = call(*told, **named)
    except error as e:
        assert type(e) is error, e
        return e
    raise AssertionError(f"returned {found!r}")


def words_of(letters, most):
    """Return all words of these letters with at most so many of them, the empty one too."""
    return ["".join(row) for many in range(most + 1) for row in itertools.product(letters, repeat=many)]


def some_links(dice, manner, many, letters):
    """Make links as the manner wants them."""
    links = {}
    for letter in letters:
        firsts, seconds = list(range(many)), list(range(many))
        dice.shuffle(firsts)
        dice.shuffle(seconds)
        if manner == "any":
            pairs = [(x, y) for x in firsts for y in seconds if dice.random() < 0.4]
        else:
            pairs = list(zip(firsts, seconds))
        links[letter] = pairs[:dice.randrange(many + 1)] if manner == "matched" else pairs
    return links


def some_store(dice, manner, many):
    kinds = {k: [x for x in range(many) if dice.random() < 0.6] for k in "12"}
    return Store(manner, many, some_links(dice, manner, many, "ab"), kinds if manner == "any" else None)


def some_path(dice, manner, most, kinds="12"):
    """Make a path of the letters a and b."""
    many = dice.randrange(1, most + 1)
    if manner != "any":
        return "".join([dice.choice("abAB") for _ in range(many)])
    path = some_mark(dice, kinds)
    for _ in range(many):
        path += dice.choice("ab") + some_mark(dice, kinds)
    return path


def some_mark(dice, kinds):
    return "".join([kind for kind in kinds if dice.random() < 0.2])


def some_book(dice, manner, most_paths, most_steps, kinds="12"):
    kept = []
    for _ in range(dice.randrange(most_paths + 1)):
        path = some_path(dice, manner, most_steps, kinds)
        if path not in kept:
            kept.append(path)
    return Book(manner, kept)


def row_of(book, plan):
    """Return the kept paths and their backs one behind the other, in the order of a plan."""
    return "".join([book.kept()[index] if way == "on" else back(book.kept()[index]) for index, way in plan])


def fits(kept, path, i, j):
    """Tell by the words of [15] whether a kept path fits from place i to place j."""
    part = piece(path, i, j)
    own, there = marks(kept), marks(part)
    return (steps(kept) == steps(part) and own[1:-1] == there[1:-1]
            and set(own[0]) <= set(there[0]) and set(own[-1]) <= set(there[-1]))


def places_of(book, path, plan):
    """Return the places a plan for "any" comes to by the words of [15], or None."""
    last = len(steps(path))
    places = [0]
    for index, way in plan:
        kept = book.kept()[index]
        onward = {i: j for i in range(last) for j in range(i + 1, last + 1)
                  if j - i == len(steps(kept)) and fits(kept, path, i, j)}
        ways = onward if way == "on" else {j: i for i, j in onward.items()}
        if places[-1] not in ways:
            return None
        places.append(ways[places[-1]])
    return places if plan != [] and places[-1] == last else None


def is_plan_by_words(book, path, plan):
    """Tell by the words of [15] whether a list of right pairs is a plan for a path."""
    if book.manner == "any":
        return places_of(book, path, plan) is not None
    row = row_of(book, plan)
    if book.manner == "turned":
        return (reduced(row) if row != "" else "") == reduced(path)
    return row != "" and tree(row) == tree(path) and reduced(row) == reduced(path)
