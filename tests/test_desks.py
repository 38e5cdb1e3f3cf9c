"""Point [29], and [3] and [4] for desks."""

import random
import unittest

from helping import MANNERS, NO_PATHS, raised, some_path
from toldpaths.books import Book
from toldpaths.desks import Desk
from toldpaths.errors import BadManner, BadPath, FullDesk
from toldpaths.stores import Store
from toldpaths.tells import is_told


class Desks(unittest.TestCase):
    def test_in_turns(self):
        desk = Desk("any")
        self.assertEqual(desk.now(), Book("any", []))
        self.assertIs(desk.tells("aaaaa"), False)
        self.assertIs(desk.keep("aaa"), False)
        self.assertIs(desk.tells("aaaaa"), False)
        self.assertIs(desk.keep("aaaa"), False)
        self.assertIs(desk.tells("aaaaa"), True)
        self.assertIs(desk.keep("aaaaa"), True)
        self.assertEqual(desk.now(), Book("any", ["aaa", "aaaa", "aaaaa"]))
        self.assertIs(desk.undo(), True)
        self.assertIs(desk.tells("aaaaa"), True)
        self.assertIs(desk.undo(), True)
        self.assertIs(desk.tells("aaaaa"), False)
        self.assertEqual(desk.now(), Book("any", ["aaa"]))
        self.assertIs(desk.keep("aa"), False)
        self.assertIs(desk.tells("aaaaa"), True)
        self.assertEqual(desk.now().kept(), ["aaa", "aa"])
        self.assertEqual([desk.undo(), desk.undo(), desk.undo(), desk.undo()], [True, True, False, False])
        self.assertEqual(desk.now(), Book("any", []))
        self.assertIs(desk.keep("a"), False)
        self.assertEqual(len(desk.now()), 1)

    def test_each_manner(self):
        for manner, told in (("any", None), ("matched", False), ("turned", True)):
            desk = Desk(manner=manner)
            self.assertEqual(desk.now(), Book(manner, []))
            self.assertIs(desk.keep(path="ab"), False)
            if told is not None:
                self.assertIs(desk.keep("B"), False)
                self.assertIs(desk.tells(path="a"), told)
                self.assertIs(desk.keep("a"), told)
                self.assertIs(desk.keep("A"), True)
            self.assertEqual(desk.now().manner, manner)
        self.assertIs(Desk("turned").keep("aA"), True)
        self.assertIs(Desk("matched").keep("aA"), False)

    def test_at_random(self):
        dice = random.Random(51)
        for manner in MANNERS:
            desk = Desk(manner)
            kept = []
            for _ in range(300):
                path = some_path(dice, manner, 3, "1")
                self.assertIs(desk.tells(path), is_told(Book(manner, kept), path))
                if dice.random() < 0.4:
                    self.assertIs(desk.undo(), kept != [])
                    kept = kept[:-1]
                elif path in kept:
                    self.assertIs(raised(BadPath, desk.keep, path).path, path)
                elif len(kept) == 8:
                    raised(FullDesk, desk.keep, path)
                else:
                    self.assertIs(desk.keep(path), is_told(Book(manner, kept), path))
                    kept = kept + [path]
                self.assertEqual(desk.now(), Book(manner, kept))

    def test_books_stay_as_they_were(self):
        desk = Desk("any")
        desk.keep("a")
        book = desk.now()
        desk.keep("b")
        later = desk.now()
        desk.undo()
        desk.undo()
        desk.keep("c")
        self.assertEqual(book, Book("any", ["a"]))
        self.assertEqual(later, Book("any", ["a", "b"]))
        kept = later.kept()
        kept.append("d")
        later.further(["e"])
        later.without([0])
        self.assertEqual(desk.now(), Book("any", ["c"]))

    def test_desks_are_apart(self):
        one, other = Desk("any"), Desk("any")
        one.keep("a")
        self.assertEqual(other.now(), Book("any", []))
        self.assertIs(other.undo(), False)


class Wrong(unittest.TestCase):
    def test_bad_manner(self):
        for manner in ["", "Any", "sets", None, True, 0, ["any"], ("any",), {"any": 1}, b"any", Store("any", 1, {})]:
            self.assertIs(raised(BadManner, Desk, manner).manner, manner)

    def test_bad_path(self):
        for manner, more in [("any", ["A", "aB"]), ("matched", ["1a"]), ("turned", ["1a"])]:
            desk = Desk(manner)
            desk.keep("a")
            for path in NO_PATHS + more:
                self.assertIs(raised(BadPath, desk.keep, path).path, path)
                self.assertIs(raised(BadPath, desk.tells, path).path, path)
            self.assertEqual(desk.now(), Book(manner, ["a"]))

    def test_kept_twice(self):
        desk = Desk("turned")
        desk.keep("aA")
        desk.keep("b")
        for path in ("aA", "b"):
            self.assertEqual(raised(BadPath, desk.keep, path).path, path)
        self.assertEqual(desk.now(), Book("turned", ["aA", "b"]))
        self.assertIs(desk.keep("Aa"), True)
        desk.undo()
        desk.undo()
        self.assertIs(desk.keep("b"), False)

    def test_full(self):
        desk = Desk("any")
        for path in "abcdefgh":
            desk.keep(path)
        self.assertIsInstance(raised(FullDesk, desk.keep, "i"), FullDesk)
        raised(FullDesk, desk.keep, "ab")
        # A wrong path is told first.
        for path in NO_PATHS + ["A", "a", "h"]:
            self.assertIs(raised(BadPath, desk.keep, path).path, path)
        self.assertIs(desk.tells("ab"), True)
        self.assertEqual(desk.now(), Book("any", list("abcdefgh")))
        self.assertIs(desk.undo(), True)
        self.assertIs(desk.keep("ab"), True)
        self.assertEqual(desk.now().kept(), ["a", "b", "c", "d", "e", "f", "g", "ab"])


if __name__ == "__main__":
    unittest.main()
