"""Points [16] and [18] to [21], and [1] to [5] for them; the examples of [30] to [33]."""

import itertools
import random
import time
import unittest

from helping import MANNERS, NO_LISTS, NO_PATHS, fits, raised, some_book, some_path, words_of
from toldpaths.books import Book
from toldpaths.errors import BadBook, BadPath
from toldpaths.paths import steps
from toldpaths.plans import carried, is_plan
from toldpaths.stores import Store
from toldpaths.tells import is_joined, is_told, is_witness, verdict

# Books, paths that they tell, and paths that they do not tell.
TOLD = {
    "any": [
        ([], [], ["a", "ab", "1a"]),
        (["a"], ["a", "aa", "aaaaaaaa", "1a2", "a1a2a3a"], ["b", "ab", "ba", "aabaa"]),
        (["ab", "b"], ["ab", "b", "abb", "bab", "bb"], ["a", "aab", "ba", "a1b"]),
        (["aaa", "aaaa"], ["aaa", "aaaa", "aaaaa", "aaaaaa", "aaaaaaa", "aaaaaaaa"], ["a", "aa"]),
        (["aaaa"], ["aaaa", "aaaaaaaa"], ["a", "aa", "aaaaa", "aaaaaa", "aaaaaaa"]),
        (["a", "ab"], ["a", "ab", "aab", "aba"], ["b", "abb", "bab"]),
        (["ab", "b", "bc"], ["abc", "ab", "bbc", "bcbc"], ["a", "c", "ac", "bcc", "abcc"]),
        (["abc", "bc", "bcd"], ["abcd"], ["ad", "abd", "acd", "cd"]),
        (["aa", "aaaaa"], ["aa", "aaaa", "aaaaa", "aaaaaa", "aaaaaaa"], ["a", "aaa"]),
        # Two bridges backward: to place 3, to 1, to 4, to 2, to 5.
        (["aaa", "aa"], ["aaaaa", "aaaa"], ["a"]),
        (["abab", "ab", "ba"], ["abab", "abababab"], ["aba", "bab", "a"]),
    ],
    "any with kinds": [
        (["a1b", "b"], ["a1b", "0a1b", "a1bb"], ["ab", "a12b", "a2b"]),
        (["a", "b"], ["1a2b", "ab", "a1b", "1a12b3", "3ab3"], ["1c"]),
        (["ab"], ["ab", "1ab2", "12ab"], ["a1b", "a12b", "1a1b"]),
        (["1a"], ["1a", "1a1a", "12a"], ["a", "2a", "a1", "1aa"]),
        (["a1"], ["a1", "a1a1", "a12", "0a1"], ["a", "a2", "1a", "a1a"]),
        (["1a2", "b"], ["1a2b", "b1a2", "b1a23b"], ["ab", "1ab", "a2b", "1a1b"]),
        (["a12b"], ["a12b", "3a12b4"], ["a1b", "a2b", "ab", "a123b"]),
        (["a1b", "1b", "b1c"], ["a1b1c"], ["a1bc", "ab1c", "abc"]),
        (["a1b", "b", "bc"], ["a1bc"], ["abc", "a2bc"]),
    ],
    "matched": [
        ([], [], ["a", "aA", "A"]),
        (["a"], ["a", "A", "aA", "Aa", "aa", "aaA", "aaAA", "AAa"], ["b", "ab", "bB"]),
        (["ab", "B"], ["ab", "b", "B", "bB", "Bb", "BA", "abB", "abbB", "abBA", "Aab"], ["a", "A", "aB", "aA", "Aa"]),
        (["aa"], ["aa", "AA", "aaAA", "aaaa", "aaAAaa"], ["a", "aA", "Aa", "aaa", "aaA"]),
        (["ab", "b"], ["abB", "abBA"], ["a", "aA"]),
        (["aA"], ["aA"], ["a", "A", "Aa", "aAaA" + "a"]),
        (["aA", "bB"], ["aA", "aAbB", "bBaA", "aAaA"], ["a", "b", "ab", "abBA"]),
        (["abB"], ["abB", "bBA"], ["a", "ab", "b", "bB"]),
        (["aaa", "aaaa"], ["aaaaa", "aaaaA", "aaaaAAA"], ["a", "aa", "aaaA"]),
        # Place "a" hangs together with the beginning, but the way to "b" is not covered.
        (["a", "c"], ["a", "ac", "aAc"], ["bBa", "abBA", "aAbB"]),
    ],
    "turned": [
        ([], ["aA", "Aa", "abBA", "aAbB"], ["a", "ab", "aAa"]),
        (["a"], ["a", "A", "aA", "aaaa", "bB", "AbBa", "bBa"], ["b", "ab", "bAB"]),
        (["ab", "B"], ["a", "A", "b", "ab", "ba", "aBAb", "abB"], ["c", "aca"]),
        (["aa", "aaa"], ["a", "A", "aaaaa"], ["b", "ab", "bab"]),
        (["aa"], ["aa", "AAAA", "aaaa", "abBa"], ["a", "aaa", "baaB"]),
        (["baB"], ["baB", "baaB", "bAAAB"], ["a", "b", "aa", "bab"]),
        (["ab", "ba"], ["abba", "abAB", "baBA", "ab", "BA"], ["a", "b", "aa", "aabb"]),
        (["aA"], ["aA", "bB"], ["a", "b"]),
        (["aab", "ab"], ["a", "b", "Ab"], ["c"]),
    ],
}


def cheapest_cost(book, path):
    """Return the least numbers of "back" and then of pairs of a plan for "any", or None, place after place."""
    last = len(steps(path))
    bridges = [(i, j) for kept in book for i in range(last) for j in range(i + 1, last + 1)
               if j - i == len(steps(kept)) and fits(kept, path, i, j)]
    costs = {0: (0, 0)}
    for _ in range(last + 1):
        for i, j in bridges:
            for one, other, backs in ((i, j, 0), (j, i, 1)):
                if one in costs:
                    cost = (costs[one][0] + backs, costs[one][1] + 1)
                    costs[other] = min(costs.get(other, cost), cost)
    return costs.get(last)


def small_stores(manner):
    """Return all stores of two things and two letters, for "any" with all kinds "1"."""
    pairs = [(x, y) for x in range(2) for y in range(2)]
    lists = [list(row) for many in range(5) for row in itertools.combinations(pairs, many)]
    if manner != "any":
        lists = [row for row in lists if len({x for x, _ in row}) == len({y for _, y in row}) == len(row)]
    if manner == "turned":
        lists = [row for row in lists if len(row) == 2]
    kinds = [[], [0], [1], [0, 1]] if manner == "any" else [None]
    return [Store(manner, 2, {"a": a, "b": b}, None if row is None else {"1": row})
            for a in lists for b in lists for row in kinds]


class IsTold(unittest.TestCase):
    def test_books_reckoned_by_hand(self):
        for name, rows in TOLD.items():
            for kept, told, others in rows:
                book = Book(name.split(" ")[0], kept)
                for path in told:
                    self.assertIs(is_told(book, path), True, (book.manner, kept, path))
                    found = verdict(book, path)
                    self.assertEqual(found[0], "told")
                    self.assertIs(is_plan(book, path, found[1]), True, (kept, path, found))
                for path in others:
                    self.assertIs(is_told(book, path), False, (book.manner, kept, path))
                    found = verdict(book, path)
                    self.assertEqual(found[0], "open")
                    self.assertIs(is_witness(book, path, found[1], found[2]), True, (kept, path))

    def test_the_document_s_examples(self):
        book = Book("any", ["aaa", "aaaa"])
        self.assertIs(is_told(book, "aaaaa"), True)
        self.assertEqual(verdict(book, "aaaaa"), ("told", [(1, "on"), (0, "back"), (1, "on")]))
        self.assertIs(is_joined(book, "aaaaa"), False)
        self.assertIs(is_told(book, "aa"), False)
        self.assertIs(is_told(Book("any", ["aaaa"]), "aaaaaa"), False)
        self.assertIs(is_told(Book("any", ["a", "ab"]), "b"), False)
        self.assertEqual(verdict(Book("any", ["ab", "b", "bc"]), "abc"),
                         ("told", [(0, "on"), (1, "back"), (2, "on")]))
        for manner, told in (("matched", False), ("turned", True)):
            self.assertIs(is_told(Book(manner, ["ab", "B"]), "a"), told)
            self.assertIs(is_told(Book(manner, ["ab", "B"]), "abB"), True)
        self.assertIs(is_told(Book("any", ["a1b", "b"]), "ab"), False)
        self.assertIs(is_told(Book("any", ["a", "b"]), "1a2b"), True)

    def test_no_small_stores_part_a_told_path(self):
        kept_paths = {"any": ["a", "ab", "aa", "a1b", "1ba", "ba1", "aab"], "matched": ["a", "aB", "ab", "aA", "bAb"],
                      "turned": ["a", "aB", "ab", "aa", "bAb"]}
        parted = {}
        for manner in MANNERS:
            stores = small_stores(manner)
            paths = [word for word in words_of("ab" if manner == "any" else "aAbB", 3) if word != ""]
            paths += ["a1b", "1ab", "ba1", "1a1b", "a1ba", "ab1a1"] if manner == "any" else []
            answers = {path: [store.answer(path) for store in stores] for path in paths + kept_paths[manner]}
            heads = [store.kinds() for store in stores]
            for many in range(4):
                for kept in itertools.combinations(kept_paths[manner], many):
                    book = Book(manner, kept)
                    seen = [repr((heads[at], [answers[path][at] for path in kept])) for at in range(len(stores))]
                    for path in paths:
                        first = {}
                        is_parted = any(first.setdefault(seen[at], answers[path][at]) != answers[path][at]
                                        for at in range(len(stores)))
                        if is_told(book, path):
                            self.assertFalse(is_parted, (manner, kept, path))
                        parted[manner] = parted.get(manner, 0) + is_parted
        # They do part many others.
        self.assertGreater(min(parted.values()), 20)

    def test_one_book_more_tells_no_less(self):
        dice = random.Random(21)
        for _ in range(200):
            manner = dice.choice(MANNERS)
            book = some_book(dice, manner, 4, 3)
            path = some_path(dice, manner, 5)
            more = some_path(dice, manner, 3)
            if is_told(book, path) and more not in book.kept():
                self.assertIs(is_told(book.further([more]), path), True)
            if len(book) > 0:
                self.assertIs(is_told(book, book.kept()[0]), True)

    def test_bad_path(self):
        for manner, more in [("any", ["A", "aB"]), ("matched", ["1a", "a0"]), ("turned", ["1a", "a0"])]:
            for path in NO_PATHS + more:
                for call in (is_told, verdict):
                    self.assertIs(raised(BadPath, call, Book(manner, ["a"]), path).path, path)

    def test_by_name(self):
        book = Book("any", ["a"])
        self.assertIs(is_told(path="a", book=book), True)
        self.assertEqual(verdict(path="a", book=book), ("told", [(0, "on")]))
        self.assertIs(is_witness(other=None, one=None, path="a", book=book), False)
        self.assertIs(is_joined(path="a", book=book), True)


class Verdict(unittest.TestCase):
    def test_forms(self):
        for manner in MANNERS:
            found = verdict(Book(manner, ["a"]), "aa")
            self.assertIs(type(found), tuple)
            self.assertEqual(found, ("told", [(0, "on"), (0, "on")]))
            self.assertIs(type(found[1]), list)
            self.assertIs(type(found[1][0]), tuple)
            found[1].append(5)
            self.assertEqual(verdict(Book(manner, ("a",)), "aa"), ("told", [(0, "on"), (0, "on")]))
            found = verdict(Book(manner, ["b"]), "a")
            self.assertEqual((type(found), len(found), found[0]), (tuple, 3, "open"))
            self.assertEqual(found, verdict(Book(manner, ("b",)), "a"))
        self.assertEqual(verdict(Book("turned", []), "aA"), ("told", []))

    def test_the_cheapest_plan(self):
        for kept, path, plan in [(["aaa", "aaaa", "aaaaa"], "aaaaa", [(2, "on")]),
                                 (["aaa", "aa"], "aaaaa", [(0, "on"), (1, "on")]),
                                 (["a", "aaaaa", "aaaa"], "aaaaaaaa", [(2, "on"), (2, "on")]),
                                 (["a", "ab", "bb", "b"], "abb", None),
                                 # Eight pairs on are cheaper than three pairs with one "back".
                                 (["aaaaaaa", "aaaaaa", "a"], "aaaaaaaa", None)]:
            found = verdict(Book("any", kept), path)
            if plan is not None:
                self.assertEqual(len(found[1]), len(plan))
            cost = (sum(way == "back" for _, way in found[1]), len(found[1]))
            self.assertEqual(cost, cheapest_cost(Book("any", kept), path))
            self.assertEqual(cost[0], 0)
        found = verdict(Book("any", ["bcdefgh", "abcdefgh", "a", "b", "c", "d", "e", "fg"]), "abcdefgh")
        self.assertEqual(found, ("told", [(1, "on")]))
        book = Book("any", ["a", "b", "c", "d", "cd", "abc", "bcd"])
        self.assertEqual(verdict(book, "abcd"), ("told", [(0, "on"), (6, "on")]))

    def test_with_back_where_needed(self):
        dice = random.Random(22)
        backs = 0
        for _ in range(1500):
            letters = dice.choice(["a", "ab", "aaab"])
            kept = {"".join(dice.choice(letters) for _ in range(dice.randrange(2, 6))) for _ in range(dice.randrange(2, 7))}
            book = Book("any", sorted(kept))
            path = "".join(dice.choice(letters) for _ in range(dice.randrange(3, 9)))
            cost = cheapest_cost(book, path)
            found = verdict(book, path)
            self.assertEqual(found[0], "open" if cost is None else "told")
            self.assertIs(is_joined(book, path), cost is not None and cost[0] == 0)
            if cost is not None:
                self.assertEqual((sum(way == "back" for _, way in found[1]), len(found[1])), cost)
                backs += cost[0] > 0
        self.assertGreater(backs, 20)

    def test_plans_and_witnesses(self):
        dice = random.Random(23)
        many = {}
        for _ in range(3000):
            manner = dice.choice(MANNERS)
            book = some_book(dice, manner, 5, 4, dice.choice(["", "1", "12", "123"]))
            path = some_path(dice, manner, 8, dice.choice(["", "1", "12", "123"]))
            found = verdict(book, path)
            self.assertEqual(found[0] == "told", is_told(book, path))
            if found[0] == "told":
                self.assertIs(is_plan(book, path, found[1]), True, (book.kept(), path))
                self.assertEqual(len(found), 2)
            else:
                _, one, other = found
                self.assertEqual((one.manner, other.manner, one.many), (manner, manner, other.many))
                self.assertEqual(one.kinds(), other.kinds())
                for kept in book:
                    self.assertEqual(one.answer(kept), other.answer(kept), (book.kept(), path))
                self.assertNotEqual(one.answer(path), other.answer(path), (book.kept(), path))
                self.assertIs(is_witness(book, path, one, other), True)
                self.assertIs(is_witness(book, path, other, one), True)
            many[(manner, found[0])] = many.get((manner, found[0]), 0) + 1
        self.assertEqual(len(many), 6)
        self.assertGreater(min(many.values()), 50)


class IsWitness(unittest.TestCase):
    def test_by_hand(self):
        book = Book("any", ["a", "ab"])
        one, other = Store("any", 2, {}), Store("any", 2, {"b": [(0, 1)]})
        self.assertIs(is_witness(book, "b", one, other), True)
        self.assertIs(is_witness(book, "b", one, one), False)
        self.assertIs(is_witness(book, "a", one, other), False)
        self.assertIs(is_witness(book.further(["b"]), "b", one, other), False)
        self.assertIs(is_witness(Book("any", []), "1b", one, other), False)

    def test_no_stores(self):
        book = Book("any", ["a"])
        store = Store("any", 2, {"b": [(0, 1)]})
        for thing in NO_LISTS + ["", "b", [], (), store.text(), store.links(), book]:
            for one, other in [(thing, store), (store, thing), (thing, thing)]:
                self.assertIs(is_witness(book, "b", one, other), False)

    def test_other_manners(self):
        for manner in MANNERS:
            one, other = Store(manner, 2, {}), Store(manner, 2, {"b": [(0, 1), (1, 0)]})
            for wanted in MANNERS:
                self.assertIs(is_witness(Book(wanted, ["a"]), "b", one, other), manner == wanted)
                mixed = Store(wanted, 2, {"b": [(0, 1), (1, 0)]})
                self.assertIs(is_witness(Book(wanted, []), "b", one, mixed), manner == wanted)
                self.assertIs(is_witness(Book(manner, []), "b", one, mixed), manner == wanted)

    def test_unlike_numbers_and_kinds(self):
        book = Book("any", ["a"])
        links = {"b": [(0, 1)]}
        self.assertIs(is_witness(book, "b", Store("any", 2, {}), Store("any", 3, links)), False)
        self.assertIs(is_witness(book, "b", Store("any", 2, {}), Store("any", 2, links, {"1": [0]})), False)
        self.assertIs(is_witness(book, "b", Store("any", 2, {}, {"1": [1]}), Store("any", 2, links, {"1": [0]})), False)
        self.assertIs(is_witness(book, "b", Store("any", 2, {}, {"1": [0]}), Store("any", 2, links, {"1": [0]})), True)
        self.assertIs(is_witness(book, "1b", Store("any", 2, {}, {"1": [0]}), Store("any", 2, links, {"1": [0]})), True)
        self.assertIs(is_witness(book, "b1", Store("any", 2, {}, {"1": [0]}), Store("any", 2, links, {"1": [0]})), False)
        self.assertIs(is_witness(book, "b", Store("any", 2, {}, {"2": []}), Store("any", 2, links)), True)

    def test_never_for_a_told_path(self):
        for manner in MANNERS:
            book = Book(manner, ["ab", "b"])
            for one in small_stores(manner)[:60]:
                for other in small_stores(manner)[:60]:
                    self.assertIs(is_witness(book, "abb", one, other), False)

    def test_stores_made_of_told_ones(self):
        # The same with other letters, each link turned about, and a letter more.
        book, path = Book("any", ["a1b", "b1c"]), "ab1c2d"
        one, other = verdict(book, path)[1:]
        names = {"a": "z", "b": "a", "c": "b", "d": "c"}
        again = []
        for store in (one, other):
            links = {names[letter]: [(y, x) for x, y in pairs] for letter, pairs in store.links().items()}
            again.append(Store("any", store.many, {**links, "y": [(0, 0)]}, store.kinds()))
        self.assertIs(is_witness(Book("any", ["a1z", "b1a"]), "c2b1az", again[0], again[1]), True)
        self.assertIs(is_witness(Book("any", ["y"]), "c2b1az", again[0], again[1]), True)
        self.assertIs(is_witness(Book("any", ["c2b1az"]), "c2b1az", again[0], again[1]), False)
        self.assertIs(is_witness(Book("any", []), "y", again[0], again[1]), False)

    def test_bad_path(self):
        store = Store("any", 2, {})
        for path in NO_PATHS + ["A"]:
            self.assertIs(raised(BadPath, is_witness, Book("any", []), path, store, None).path, path)


class IsJoined(unittest.TestCase):
    def test_with_and_without_a_row(self):
        for kept, path, told in [(["a", "b"], "ab", True), (["a", "b"], "abc", False), (["ab", "c"], "abc", True),
                                 (["ab", "b", "bc"], "abc", False), (["aa", "aaa"], "aaaaa", True), ([], "a", False),
                                 (["aaa", "aaaa"], "aaaaaaaa", True), (["aaa", "aaaa"], "aaaaa", False),
                                 (["ab"], "a1b", False), (["a", "b"], "a1b", True), (["1a", "b"], "1ab", True),
                                 (["1a", "b"], "ab", False), (["a1", "1b"], "a1b", True), (["a12", "1b"], "a1b", False),
                                 (["a1bc", "b"], "a1b", False)]:
            self.assertIs(is_joined(Book("any", kept), path), told, (kept, path))

    def test_answers_never_lose_a_pair(self):
        book = Book("any", ["ab", "b"])
        plan = verdict(book, "abb")[1]
        few = carried(book, "abb", plan, [[(0, 1)], [(1, 2)]])
        more = carried(book, "abb", plan, [[(0, 1), (0, 3)], [(1, 2), (3, 4)]])
        self.assertEqual((few, more), ([(0, 2)], [(0, 2), (0, 4)]))

    def test_bad_book_then_bad_path(self):
        for book in NO_LISTS + ["", [], (), ["a"], Store("any", 1, {}), Book("matched", ["a"]), Book("turned", ["a"])]:
            for path in ("a", "", None):
                self.assertIs(raised(BadBook, is_joined, book, path).book, book)
        for path in NO_PATHS + ["A"]:
            self.assertIs(raised(BadPath, is_joined, Book("any", ["a"]), path).path, path)


class Limits(unittest.TestCase):
    def test_short_times(self):
        begun = time.monotonic()
        for manner, kept, path in [
                ("any", ["a", "aa", "aaa", "aaaa", "aaaaa", "aaaaaa", "aaaaaaa", "aaaaaaaa"], "aaaaaaaa"),
                ("any", ["aaaaaaa", "aaaaaaaa", "a1a", "1aa", "aa2", "a12a", "12a34", "a3a4a"], "1aaa23aaaaa4a"),
                ("any", ["01a", "a23", "aa", "aaa", "aaaa", "aaaaa", "aaaaaa", "aaaaaaa"], "a0123aaaaaaa"),
                ("any", [], "0a1b2c3defgh"),
                ("matched", ["a", "aA", "aa", "aaA", "A", "Aa", "AA", "aAa"], "aaaaaaaa"),
                ("matched", ["aAaAaAaA", "bBbBbBbB", "abcdefgh", "bcdefgh", "cdefgh", "ABab", "abAB", "hH"], "abcdefgh"),
                ("matched", [], "abcdefgh"),
                ("turned", ["aaaaaaaa", "aaaaaaa", "aaaaa"], "a"),
                ("turned", ["aaaaaaaa", "aaaaaaa", "aaaaa"], "aaaabaaa"),
                ("turned", ["aabab", "babba", "abbab", "aaabb"], "abababab"),
                ("turned", ["a", "aba", "bcb", "cdc", "ded", "efe", "fgf"], "gfGFgfGF"),
                ("turned", ["a", "aba", "bcb", "cdc", "ded", "efe", "fgf"], "gggggggg")]:
            book = Book(manner, kept)
            found = verdict(book, path)
            if found[0] == "told":
                self.assertIs(is_plan(book, path, found[1]), True)
                answers = [[(x, x + 1) for x in range(100)] for _ in kept]
                carried(book, path, found[1], answers, {kind: list(range(100)) for kind in "01234"})
            else:
                self.assertIs(is_witness(book, path, found[1], found[2]), True)
        # Far above what it takes, far below what trying all stores would.
        self.assertLess(time.monotonic() - begun, 60)


if __name__ == "__main__":
    unittest.main()
