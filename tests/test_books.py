"""Point [14], and [3] and [4] for books."""

import unittest

from helping import MANNERS, NO_LISTS, NO_NUMBERS, NO_PATHS, raised
from toldpaths.books import Book
from toldpaths.errors import BadIndex, BadKept, BadManner
from toldpaths.stores import Store

PATHS = {"any": ["a", "1ab2", "ab", "a12b", "zz"], "matched": ["a", "A", "aB", "aA", "zz"],
         "turned": ["a", "A", "aB", "aA", "zz"]}
EIGHT = ["a", "b", "c", "d", "e", "f", "g", "h"]


class Made(unittest.TestCase):
    def test_each_manner(self):
        for manner in MANNERS:
            for many in range(6):
                kept = PATHS[manner][:many]
                for given in (kept, tuple(kept)):
                    book = Book(manner, given)
                    self.assertEqual(book.manner, manner)
                    self.assertEqual(book.kept(), kept)
                    self.assertIs(type(book.kept()), list)
                    self.assertEqual(len(book), many)
                    self.assertEqual([path for path in book], kept)
                    self.assertEqual(list(book), kept)
        self.assertEqual(len(Book("any", EIGHT)), 8)
        self.assertEqual(Book(kept=["b", "a"], manner="any").kept(), ["b", "a"])

    def test_iterating_again(self):
        book = Book("any", ["b", "a"])
        self.assertEqual([(x, y) for x in book for y in book], [("b", "b"), ("b", "a"), ("a", "b"), ("a", "a")])

    def test_later_changes(self):
        kept = ["a", "b"]
        book = Book("any", kept)
        kept.append("c")
        kept[0] = "d"
        self.assertEqual(book.kept(), ["a", "b"])
        found = book.kept()
        found.append("c")
        found[0] = "d"
        self.assertEqual(book.kept(), ["a", "b"])
        self.assertEqual(list(book), ["a", "b"])
        self.assertEqual(len(book), 2)

    def test_what_is_passed_stays(self):
        kept = ["a", "b"]
        more = ["c"]
        indices = [1]
        book = Book("any", kept)
        book.further(more)
        book.without(indices)
        self.assertEqual((kept, more, indices), (["a", "b"], ["c"], [1]))
        self.assertEqual(book.kept(), ["a", "b"])


class Equal(unittest.TestCase):
    def test_equal(self):
        self.assertIs(Book("any", ["a", "b"]) == Book("any", ("a", "b")), True)
        self.assertIs(Book("any", ["a", "b"]) != Book("any", ("a", "b")), False)
        for manner in MANNERS:
            self.assertEqual(Book(manner, []), Book(manner, ()))

    def test_unequal(self):
        books = [Book(manner, kept) for manner in MANNERS for kept in ([], ["a"], ["b"], ["a", "b"], ["b", "a"])]
        for at, one in enumerate(books):
            for other_at, other in enumerate(books):
                self.assertIs(one == other, at == other_at)
                self.assertIs(one != other, at != other_at)

    def test_other_objects(self):
        book = Book("any", ["a"])
        for other in NO_LISTS + [[], (), ["a"], ("a",), "a", "any", ("any", ["a"]), Store("any", 1, {})]:
            self.assertIs(book == other, False)
            self.assertIs(other == book, False)
            self.assertIs(book != other, True)


class Wrong(unittest.TestCase):
    def test_manner_first(self):
        for manner in ["", "Any", "sets", None, True, 0, ["any"], ("any",), {"any": 1}, b"any", Store("any", 1, {})]:
            for kept in (["a"], ["", 5], 7):
                self.assertIs(raised(BadManner, Book, manner, kept).manner, manner)

    def test_no_list(self):
        for kept in NO_LISTS + ["", "ab", "a", Book("any", ["a"]), Store("any", 1, {})]:
            self.assertEqual(raised(BadKept, Book, "any", kept).index, 0)

    def test_index_of_the_first_wrong_item(self):
        for manner, more in [("any", ["A", "aB"]), ("matched", ["1a", "a2"]), ("turned", ["1a", "a2"])]:
            for wrong in NO_PATHS + more:
                for at in range(4):
                    kept = ["a", "b", "c"]
                    kept.insert(at, wrong)
                    self.assertEqual(raised(BadKept, Book, manner, kept).index, at)
                    self.assertEqual(raised(BadKept, Book, manner, tuple(kept + [None, "a"])).index, at)

    def test_twice(self):
        self.assertEqual(raised(BadKept, Book, "any", ["a", "b", "a"]).index, 2)
        self.assertEqual(raised(BadKept, Book, "any", ["a", "b", "b", "a", 5]).index, 2)
        self.assertEqual(raised(BadKept, Book, "turned", ["aA", "aA"]).index, 1)
        self.assertEqual(len(Book("turned", ["aA", "Aa", "bB"])), 3)

    def test_a_ninth_one(self):
        self.assertEqual(raised(BadKept, Book, "any", EIGHT + ["i"]).index, 8)
        self.assertEqual(raised(BadKept, Book, "any", EIGHT + ["i", None]).index, 8)
        self.assertEqual(raised(BadKept, Book, "any", EIGHT[:7] + ["a", "i"]).index, 7)


class Further(unittest.TestCase):
    def test_behind_the_others(self):
        book = Book("matched", ["b", "aB"])
        longer = book.further(["A", "c"])
        self.assertEqual(longer, Book("matched", ["b", "aB", "A", "c"]))
        self.assertEqual(book, Book("matched", ["b", "aB"]))
        self.assertEqual(book.further(paths=("c",)).kept(), ["b", "aB", "c"])
        self.assertEqual(book.further([]), book)
        self.assertEqual(Book("any", []).further(EIGHT), Book("any", EIGHT))

    def test_indices_of_the_whole_book(self):
        book = Book("any", ["a", "b"])
        self.assertEqual(raised(BadKept, book.further, ["c", "A"]).index, 3)
        self.assertEqual(raised(BadKept, book.further, ["b"]).index, 2)
        self.assertEqual(raised(BadKept, book.further, ["c", "d", "c"]).index, 4)
        self.assertEqual(raised(BadKept, book.further, [None]).index, 2)
        self.assertEqual(raised(BadKept, book.further, EIGHT[2:] + ["i"]).index, 8)
        self.assertEqual(raised(BadKept, Book("any", EIGHT).further, ["i"]).index, 8)

    def test_no_list(self):
        for paths in NO_LISTS + ["", "ab", Book("any", ["c"])]:
            self.assertEqual(raised(BadKept, Book("any", []).further, paths).index, 0)
            self.assertEqual(raised(BadKept, Book("any", ["a", "b"]).further, paths).index, 2)
            self.assertEqual(raised(BadKept, Book("any", EIGHT).further, paths).index, 8)


class Without(unittest.TestCase):
    def test_left_out(self):
        book = Book("any", ["a", "b", "c", "d"])
        for indices, kept in [([], "abcd"), ([0], "bcd"), ([3], "abc"), ([1, 2], "ad"), ([2, 1], "ad"), ((3, 0), "bc"),
                              ([3, 2, 1, 0], "")]:
            self.assertEqual(book.without(indices), Book("any", list(kept)))
        self.assertEqual(book.without(indices=[1]).kept(), ["a", "c", "d"])
        self.assertEqual(book.kept(), ["a", "b", "c", "d"])
        self.assertEqual(Book("turned", []).without([]), Book("turned", []))

    def test_wrong_indices(self):
        book = Book("any", ["a", "b", "c"])
        for wrong in NO_NUMBERS + [3, 100, "a", ["a"], (1,), [1]]:
            for indices in ([wrong], [0, wrong], (2, 1, wrong), [1, wrong, 0, 0]):
                self.assertIs(raised(BadIndex, book.without, indices).index, wrong)

    def test_a_second_time(self):
        book = Book("any", ["a", "b", "c"])
        self.assertEqual(raised(BadIndex, book.without, [1, 0, 1, 7]).index, 1)
        self.assertEqual(raised(BadIndex, book.without, [2, 2]).index, 2)
        self.assertEqual(raised(BadIndex, book.without, (0, 1, 0, True)).index, 0)

    def test_no_list(self):
        for indices in NO_LISTS + ["", "0", Book("any", [])]:
            self.assertIs(raised(BadIndex, Book("any", ["a"]).without, indices).index, indices)

    def test_empty_book(self):
        self.assertEqual(raised(BadIndex, Book("any", []).without, [0]).index, 0)


if __name__ == "__main__":
    unittest.main()
