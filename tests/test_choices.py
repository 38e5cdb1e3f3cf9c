"""Points [25] to [28], and [3] to [5] for choices."""

import copy
import itertools
import random
import time
import unittest

from helping import MANNERS, NO_LISTS, NO_NUMBERS, NO_PATHS, raised, some_book, some_path
from toldpaths.books import Book
from toldpaths.choices import asks, greatest, least, needless, tells_all, touched
from toldpaths.errors import BadBook, BadIndex, BadKept, BadManner, BadPath
from toldpaths.paths import piece, steps
from toldpaths.stores import Store
from toldpaths.tells import is_told, verdict

NO_MANNERS = ["", "Any", "sets", None, True, 0, ["any"], ("any",), {"any": 1}, b"any", Store("any", 1, {})]


def choices(many):
    return [list(row) for size in range(many + 1) for row in itertools.combinations(range(many), size)]


def least_by_trying(manner, menu, wishes):
    """Find by is_told all least choices that tell all wishes."""
    telling = [row for row in choices(len(menu))
               if all(is_told(Book(manner, [menu[at] for at in row]), wish) for wish in wishes)]
    return [row for row in telling if not any(set(other) < set(row) for other in telling)]


def greatest_by_trying(manner, menu, secrets):
    """Find by is_told all greatest choices that tell no secret."""
    silent = [row for row in choices(len(menu))
              if not any(is_told(Book(manner, [menu[at] for at in row]), secret) for secret in secrets)]
    return [row for row in silent if not any(set(other) > set(row) for other in silent)]


def some_menus():
    """Return menus of each manner, with paths to be asked for."""
    dice = random.Random(41)
    found = []
    for _ in range(60):
        manner = dice.choice(MANNERS)
        book = some_book(dice, manner, 5, 3, dice.choice(["", "1"]))
        paths = [some_path(dice, manner, 4, dice.choice(["", "1"])) for _ in range(dice.randrange(4))]
        found.append((manner, book.kept(), paths))
    return found


class TellsAll(unittest.TestCase):
    def test_by_hand(self):
        for manner, kept, others, told in [
                ("any", ["aaa", "aaaa"], ["aaaaa", "aaa", "aaaaaaaa"], True), ("any", ["aaa", "aaaa"], ["aaaaa", "a"], False),
                ("any", [], [], True), ("any", [], ["a"], False), ("any", ["a"], [], True),
                ("matched", ["ab", "B"], ["abB", "b"], True), ("matched", ["ab", "B"], ["abB", "a"], False),
                ("turned", ["ab", "B"], ["a", "b", "BA"], True), ("turned", [], ["aA"], True), ("turned", [], ["a"], False)]:
            self.assertIs(tells_all(Book(manner, kept), Book(manner, others)), told, (kept, others))
        self.assertIs(tells_all(other=Book("any", ["aa"]), book=Book("any", ["a"])), True)

    def test_as_is_told_tells(self):
        dice = random.Random(42)
        for _ in range(200):
            manner = dice.choice(MANNERS)
            book, other = some_book(dice, manner, 4, 2), some_book(dice, manner, 3, 3)
            self.assertIs(tells_all(book, other), all(is_told(book, path) for path in other))

    def test_bad_book(self):
        for manner in MANNERS:
            book = Book(manner, ["a"])
            others = [Book(other, ["a"]) for other in MANNERS if other != manner]
            for other in NO_LISTS + ["", "any", [], (), ["a"], ("a",), Store(manner, 1, {})] + others:
                self.assertIs(raised(BadBook, tells_all, book, other).book, other)


class Needless(unittest.TestCase):
    def test_by_hand(self):
        for manner, kept, found in [("any", [], []), ("any", ["a"], []), ("any", ["a", "b", "ab"], [2]),
                                    ("any", ["ab", "a", "b"], [0]), ("any", ["aaa", "aaaa", "aaaaa"], [2]),
                                    ("any", ["a", "aa", "aaa"], [1, 2]), ("any", ["1a", "a"], [0]),
                                    ("matched", ["a", "A"], [0, 1]), ("matched", ["a", "A", "b"], [0, 1]),
                                    ("matched", ["ab", "B", "a"], [0]), ("turned", ["ab", "B", "a"], [0, 1, 2]),
                                    ("turned", ["aA"], [0]), ("turned", ["aA", "a", "b"], [0]),
                                    ("turned", ["aa", "aaa", "a"], [0, 1, 2]), ("turned", ["aa", "aaa"], [])]:
            self.assertEqual(needless(Book(manner, kept)), found, kept)
        self.assertEqual(needless(book=Book("any", ["a", "aa"])), [1])

    def test_as_is_told_tells(self):
        dice = random.Random(43)
        for _ in range(150):
            book = some_book(dice, dice.choice(MANNERS), 6, 3, "1")
            wanted = [at for at in range(len(book)) if is_told(book.without([at]), book.kept()[at])]
            found = needless(book)
            self.assertEqual(found, wanted)
            self.assertIs(type(found), list)


class LeastAndGreatest(unittest.TestCase):
    def test_by_hand(self):
        menu = ["a", "b", "ab", "ba"]
        for wishes, found in [([], [[]]), (["ab"], [[2], [0, 1]]), (["ab", "ba"], [[2, 3], [0, 1]]), (["c"], []),
                              (["aba"], [[0, 1], [0, 2], [0, 3], [1, 2, 3]]), (["a"], [[0]]), (["a", "b"], [[0, 1]]),
                              (["a", "c"], []), (("ab", "ab"), [[2], [0, 1]])]:
            self.assertEqual(sorted(least("any", menu, wishes)), sorted(found), wishes)
        for secrets, found in [([], [[0, 1, 2, 3]]), (["ab"], [[0, 3], [1, 3]]), (["c"], [[0, 1, 2, 3]]),
                               (["a", "b"], [[2, 3]]), (["b"], [[0, 2, 3]]), (("ab", "ba"), [[0], [1]]),
                               (["a", "b", "ab", "ba"], [[]])]:
            self.assertEqual(sorted(greatest("any", menu, secrets)), sorted(found), secrets)

    def test_the_empty_menu(self):
        for manner in MANNERS:
            self.assertEqual(least(manner, [], []), [[]])
            self.assertEqual(least(manner, (), ["a"]), [])
            self.assertEqual(greatest(manner, [], ["a"]), [[]])
            self.assertEqual(greatest(manner, [], []), [[]])

    def test_always_told(self):
        for menu in ([], ["a"], ["aA", "b"]):
            self.assertEqual(least("turned", menu, ["aA", "bB"]), [[]])
            self.assertEqual(greatest("turned", menu, ["aA"]), [])
            self.assertEqual(greatest("turned", menu, ["c", "bB"]), [])
        self.assertEqual(greatest("matched", ["b"], ["aA"]), [[0]])

    def test_over_all_choices(self):
        for manner, menu, paths in some_menus():
            self.assertEqual(sorted(least(manner, menu, paths)), sorted(least_by_trying(manner, menu, paths)))
            self.assertEqual(sorted(greatest(manner, menu, paths)), sorted(greatest_by_trying(manner, menu, paths)))

    def test_by_name_and_tuples(self):
        self.assertEqual(least(wishes=("ab",), menu=("a", "b"), manner="any"), [[0, 1]])
        self.assertEqual(greatest(secrets=("ab",), menu=("a", "ab"), manner="any"), [[0]])
        for call in (least, greatest):
            found = call("any", ["a", "b"], ["ab"])
            self.assertTrue(type(found) is list and all(type(row) is list for row in found))
            found[0].append(7)
            self.assertNotEqual(call("any", ["a", "b"], ["ab"]), found)

    def test_errors_in_their_order(self):
        for call in (least, greatest):
            for manner in NO_MANNERS:
                self.assertIs(raised(BadManner, call, manner, 5, 5).manner, manner)
            for menu in NO_LISTS + ["", "ab", Book("any", ["a"])]:
                self.assertEqual(raised(BadKept, call, "any", menu, 5).index, 0)
            for menu, index in [(["a", "A"], 1), (["a", "b", "a"], 2), ([None], 0), (list("abcdefghi"), 8), (("a", ""), 1)]:
                self.assertEqual(raised(BadKept, call, "any", menu, [None]).index, index)
            for paths in NO_LISTS + ["", "ab", Book("any", ["a"])]:
                self.assertIs(raised(BadPath, call, "any", ["a"], paths).path, paths)
            for manner, more in [("any", ["A"]), ("matched", ["1a"]), ("turned", ["1a"])]:
                for wrong in NO_PATHS + more:
                    for paths in ([wrong], ["a", "b", wrong, None], ("a", wrong, "")):
                        self.assertIs(raised(BadPath, call, manner, ["a"], paths).path, wrong)


class Touched(unittest.TestCase):
    def test_by_hand(self):
        book = Book("any", ["aaa", "aaaa", "a", "b"])
        for indices, path, found in [([], "aaaaa", False), ([0], "aaaaa", False), ([2], "aaaaa", False),
                                     ([0, 2], "aaaaa", True), ((1, 2), "aaaaa", True), ([3], "aaaaa", False),
                                     ([3], "ab", True), ([0, 1, 2, 3], "b", True), ([], "b", False), ([], "c", True),
                                     ([0, 1, 2], "b", False)]:
            self.assertIs(touched(book, indices, path), found, (indices, path))
        self.assertIs(touched(path="b", indices=[3], book=book), True)
        self.assertIs(touched(Book("turned", ["a", "b"]), [0, 1], "aA"), False)
        self.assertIs(touched(Book("turned", ["ab", "b", "a"]), [1], "b"), False)
        self.assertIs(touched(Book("matched", ["ab", "b", "a"]), [1], "b"), True)

    def test_over_all_indices(self):
        dice = random.Random(44)
        for _ in range(60):
            book = some_book(dice, dice.choice(MANNERS), 4, 3, "1")
            path = some_path(dice, book.manner, 4, "1")
            for indices in choices(len(book)):
                self.assertIs(touched(book, indices, path), not is_told(book.without(indices), path))

    def test_index_then_path(self):
        book = Book("any", ["a", "b", "c"])
        for wrong in NO_NUMBERS + [3, "a", [1]]:
            self.assertIs(raised(BadIndex, touched, book, [0, wrong, 7], "").index, wrong)
        self.assertEqual(raised(BadIndex, touched, book, (1, 2, 1), None).index, 1)
        for indices in NO_LISTS + ["", "0", book]:
            self.assertIs(raised(BadIndex, touched, book, indices, None).index, indices)
        for path in NO_PATHS + ["A"]:
            self.assertIs(raised(BadPath, touched, book, [0], path).path, path)


class Asks(unittest.TestCase):
    def test_by_hand(self):
        for kept, path, found in [([], "a", ["a"]), ([], "ab", ["ab"]), (["a"], "ab", ["b", "ab"]),
                                  (["a"], "a", ["a"]), (["a", "b"], "ab", ["a", "b", "ab"]), (["b"], "ab", ["a", "ab"]),
                                  (["b"], "abb", ["a", "ab", "abb"]), (["ab"], "aab", ["a", "aab"]),
                                  (["aaa"], "aaaaa", ["a", "aa", "aaaa", "aaaaa"]), (["c"], "aa", ["a", "aa"]),
                                  (["ab", "bc"], "abc", ["a", "b", "c", "abc"]), (["a", "ab"], "abc", ["c", "bc", "abc"]),
                                  ([], "1a2b", ["1a2b"]), (["a"], "1a2b", ["2b", "1a2b"]), (["2a"], "1a2b", ["1a2b"]),
                                  (["b"], "1a2b", ["1a2", "1a2b"]), (["a1b"], "a1b1", ["1b1", "a1", "a1b1"])]:
            self.assertEqual(asks(Book("any", kept), path), found, (kept, path))
        self.assertEqual(asks(path="a", book=Book("any", [])), ["a"])

    def test_over_all_pieces(self):
        dice = random.Random(45)
        for _ in range(150):
            book = some_book(dice, "any", 5, 3, "1")
            path = some_path(dice, "any", 5, "1")
            last = len(steps(path))
            parts = {piece(path, i, j) for i in range(last) for j in range(i + 1, last + 1)}
            wanted = [part for part in parts if is_told(book if part in book.kept() else book.further([part]), path)]
            found = asks(book, path)
            self.assertEqual(found, sorted(wanted, key=lambda part: (len(steps(part)), part)))
            if is_told(book, path):
                self.assertEqual(set(found), parts)
            self.assertIn(path, found)

    def test_full_books(self):
        book = Book("any", ["c", "d", "e", "f", "g", "h", "ab", "bc"])
        self.assertEqual(asks(book, "abab"), ["a", "b", "ab", "ba", "aba", "bab", "abab"])
        self.assertEqual(asks(book, "abz"), ["z", "abz"])
        self.assertEqual(asks(book, "abc"), ["a", "b", "c", "ab", "bc", "abc"])
        self.assertEqual(len(book), 8)

    def test_no_other_path_of_few_letters_helps(self):
        # With which one more path a path is told: it fits on a piece.
        book = Book("any", ["ab", "b"])
        for path in ("aab", "ba", "abba", "a"):
            self.assertIs(is_told(book, path), False)
            for row in itertools.chain.from_iterable(itertools.product("ab", repeat=n) for n in range(1, 5)):
                more = "".join(row)
                if more not in book.kept() and is_told(book.further([more]), path):
                    self.assertIn(more, asks(book, path))

    def test_bad_book_then_bad_path(self):
        for book in NO_LISTS + ["", [], (), ["a"], Store("any", 1, {}), Book("matched", ["a"]), Book("turned", [])]:
            for path in ("a", None):
                self.assertIs(raised(BadBook, asks, book, path).book, book)
        for path in NO_PATHS + ["A"]:
            self.assertIs(raised(BadPath, asks, Book("any", ["a"]), path).path, path)


class NothingModified(unittest.TestCase):
    def test_what_was_passed(self):
        menu, paths, indices = ["a", "b", "ab"], ["ab", "ba"], [1, 0]
        book = Book("any", menu)
        told = copy.deepcopy((menu, paths, indices))
        least("any", menu, paths)
        greatest("any", menu, paths)
        touched(book, indices, "ab")
        tells_all(book, Book("any", paths))
        asks(book, "aba").append(5)
        needless(book).append(5)
        self.assertEqual((menu, paths, indices), told)
        self.assertEqual(book, Book("any", ["a", "b", "ab"]))
        self.assertEqual(needless(book), [2])
        self.assertNotIn(5, asks(book, "aba"))


class Limits(unittest.TestCase):
    def test_short_times(self):
        begun = time.monotonic()
        dice = random.Random(46)
        menus = {"any": ["aa", "aaa", "ab", "bb", "a1b", "bab", "ba2", "1bbb"],
                 "matched": ["aa", "aA", "ab", "bB", "aBb", "bab", "ba", "BBA"],
                 "turned": ["aa", "aaa", "ab", "bb", "bbA", "bab", "ba", "bbb"]}
        for manner, menu in menus.items():
            for many in (0, 1, 3, 60):
                paths = [some_path(dice, manner, 8, "12") for _ in range(many)]
                least(manner, menu, paths)
                greatest(manner, menu, paths)
            needless(Book(manner, menu))
        self.assertEqual(asks(Book("any", list("abcdefgh")), "0a1b2c3defgh")[0], "0a1")
        self.assertEqual(len(asks(Book("any", list("abcdefgh")), "0a1b2c3defgh")), 36)
        self.assertEqual(verdict(Book("any", list("abcdefgh")), "0a1b2c3defgh")[0], "told")
        # Far above what it takes, far below what trying all stores would.
        self.assertLess(time.monotonic() - begun, 60)


if __name__ == "__main__":
    unittest.main()
