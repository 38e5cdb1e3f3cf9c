"""Points [22] to [24], [50] and [51], and [3] to [5] for machines; the machine of [30]."""

import random
import time
import unittest

from helping import NO_LISTS, NO_NUMBERS, raised, some_book, words_of
from toldpaths.books import Book
from toldpaths.errors import BadBook, BadMachine, BadNumber, BadPiece
from toldpaths.machines import Machine, machine
from toldpaths.paths import reduced
from toldpaths.stores import Store
from toldpaths.tells import is_told

AAA = Book("any", ["aaa", "aaaa"])
ROWS = [(True, {"a": 1}), (False, {"a": 2}), (False, {"a": 3}), (True, {"a": 3})]
BOOKS = [Book("any", kept) for kept in ([], ["a"], ["ab"], ["aaa", "aaaa"], ["ab", "b", "ba"], ["aa", "bb", "ab"],
                                        ["aba", "bab", "ab"], ["aab", "ab", "ba", "bbb"])]
BOOKS += [Book("turned", kept) for kept in ([], ["aA"], ["a"], ["A"], ["aa"], ["abA"], ["ab", "ba"], ["aba", "bb"])]
NO_MACHINES = NO_LISTS + ["", "a", [], (), ROWS, AAA, Store("any", 1, {})]


def told_words(book, letters, most):
    """Return all strings that the machine of a book has to have, by is_told."""
    return [word for word in words_of(letters, most)
            if word == "" or (is_told(book, word) and (book.manner == "any" or reduced(word) == word))]


def strings_of(found, letters, most):
    """Return all strings that a machine has."""
    return [word for word in words_of(letters, most) if found.has(word)]


def letters_of(book):
    return "ab" if book.manner == "any" else "ABab"


class Rows(unittest.TestCase):
    def check(self, rows):
        """Check that rows are the least ones, numbered as told."""
        named = [0]
        for at in range(len(rows)):
            self.assertLess(at, len(named))
            self.assertEqual(list(rows[at][1]), sorted(rows[at][1]))
            for behind in rows[at][1].values():
                if behind not in named:
                    named.append(behind)
        self.assertEqual(named, list(range(len(rows))))
        # Two states are unlike if their ends are, or the states behind some letter.
        unlike = {(p, q): rows[p][0] != rows[q][0] or set(rows[p][1]) != set(rows[q][1])
                  for p in named for q in named}
        for _ in rows:
            for p, q in unlike:
                if not unlike[(p, q)]:
                    unlike[(p, q)] = any(unlike[(rows[p][1][x], rows[q][1][x])] for x in rows[p][1])
        self.assertTrue(all(unlike[(p, q)] == (p != q) for p, q in unlike))
        if rows == [(False, {})]:
            return
        ending = {p for p in named if rows[p][0]}
        for _ in rows:
            ending |= {p for p in named if ending & set(rows[p][1].values())}
        self.assertEqual(ending, set(named))

    def test_the_document_s_example(self):
        self.assertEqual(machine(AAA).rows(), ROWS)
        self.assertEqual(len(machine(book=AAA)), 4)

    def test_by_hand(self):
        loop = {"A": 1, "a": 2}
        for manner, kept, rows in [
                ("any", [], [(True, {})]), ("turned", [], [(True, {})]), ("turned", ["aA", "bB"], [(True, {})]),
                ("any", ["a"], [(True, {"a": 0})]), ("any", ["a", "b"], [(True, {"a": 0, "b": 0})]),
                ("any", ["ab"], [(True, {"a": 1}), (False, {"b": 0})]),
                ("any", ["ab", "b"], [(True, {"a": 1, "b": 0}), (False, {"b": 0})]),
                ("any", ["aa", "aaa"], [(True, {"a": 1}), (False, {"a": 2}), (True, {"a": 2})]),
                ("turned", ["a"], [(True, loop), (True, {"A": 1}), (True, {"a": 2})]),
                ("turned", ["A"], [(True, loop), (True, {"A": 1}), (True, {"a": 2})]),
                ("turned", ["aa"], [(True, loop), (False, {"A": 3}), (False, {"a": 4}), (True, {"A": 1}),
                                    (True, {"a": 2})]),
                ("turned", ["abA"], [(True, {"a": 1}), (False, {"B": 2, "b": 3}), (False, {"A": 4, "B": 2}),
                                     (False, {"A": 4, "b": 3}), (True, {})])]:
            self.assertEqual(machine(Book(manner, kept)).rows(), rows, kept)
            self.check(rows)
            self.assertIs(type(machine(Book(manner, kept)).rows()[0]), tuple)
            self.assertIs(machine(Book(manner, kept)).rows()[0][0], True)

    def test_all_are_least_and_numbered(self):
        dice = random.Random(31)
        for _ in range(150):
            book = some_book(dice, dice.choice(["any", "turned"]), 5, 4, "")
            rows = machine(book).rows()
            self.check(rows)
            self.assertEqual(len(machine(book)), len(rows))
        found = [machine(book) for book in BOOKS]
        for one in found:
            for other in found:
                for made in made_of(one, other):
                    self.check(made.rows())

    def test_new_at_every_depth(self):
        found = machine(AAA)
        rows = found.rows()
        rows[0][1]["b"] = 5
        rows.append(7)
        self.assertEqual(found.rows(), ROWS)
        self.assertIs(found.has("b"), False)
        other = machine(Book("any", ["a"]))
        both = found.both(other)
        both.rows()[0][1].clear()
        self.assertEqual(found.rows(), ROWS)

    def test_the_book_is_as_it_was(self):
        kept = ["aa", "aaa"]
        book = Book("any", kept)
        machine(book)
        self.assertEqual((kept, book), (["aa", "aaa"], Book("any", ["aa", "aaa"])))

    def test_bad_book(self):
        for book in NO_MACHINES[:-2] + [["a"], ("a",), Store("any", 1, {}), machine(AAA), Book("matched", []),
                                        Book("matched", ["a"]), Book("any", ["a", "a1"]), Book("any", ["1a"]),
                                        Book("any", ["a", "b", "a0b"])]:
            self.assertIs(raised(BadBook, machine, book).book, book)


def made_of(one, other):
    return one.both(other), one.either(other), one.less(other)


class Strings(unittest.TestCase):
    def test_as_told(self):
        for book in BOOKS:
            most = 7 if book.manner == "any" else 5
            wanted = told_words(book, letters_of(book), most)
            found = machine(book)
            self.assertEqual(strings_of(found, letters_of(book), most), wanted, book.kept())
            for n in range(most + 1):
                words = sorted(word for word in wanted if len(word) == n)
                self.assertEqual(found.count(n), len(words))
                self.assertEqual([found.nth(n, i) for i in range(len(words) + 2)], words + [None, None])

    def test_as_told_at_random(self):
        dice = random.Random(32)
        for _ in range(60):
            book = some_book(dice, dice.choice(["any", "turned"]), 5, 4, "")
            most = 7 if book.manner == "any" else 4
            self.assertEqual(strings_of(machine(book), letters_of(book), most),
                             told_words(book, letters_of(book), most), book.kept())

    def test_has_of_any_object(self):
        found = machine(AAA)
        self.assertIs(found.has(""), True)
        for told, path in [(True, "aaa"), (False, "a"), (False, "aa"), (False, "aab"), (False, "b"), (False, "aaA"),
                           (False, "AAA"), (False, "1aaa"), (False, "aaa1"), (False, "aaa "), (False, "aaa\u00e4")]:
            self.assertIs(found.has(path), told, path)
            self.assertIs(found.has(path=path), told, path)
        for thing in NO_LISTS + [[], (), ["a", "a", "a"], ("aaa",), AAA, found]:
            self.assertIs(found.has(thing), False)
        turned = machine(Book("turned", ["ab"]))
        for told, path in [(True, "ab"), (True, "BA"), (True, ""), (False, "aA"), (False, "abBb"), (False, "ba")]:
            self.assertIs(turned.has(path), told, path)

    def test_long_strings(self):
        self.assertIs(machine(AAA).has("a" * 100000), True)
        self.assertIs(machine(AAA).has("a" * 100000 + "b"), False)
        self.assertIs(machine(Book("turned", ["ab"])).has("ab" * 50000), True)
        self.assertIs(machine(Book("turned", ["ab"])).has("ab" * 50000 + "a"), False)

    def test_great_n(self):
        found = machine(Book("any", ["a", "b", "c"]))
        self.assertEqual(found.count(100), 3 ** 100)
        self.assertEqual(found.nth(100, 0), "a" * 100)
        self.assertEqual(found.nth(100, 3 ** 100 - 1), "c" * 100)
        self.assertIs(found.nth(100, 3 ** 100), None)
        self.assertEqual(found.nth(n=100, i=5), "a" * 98 + "bc")
        found = machine(Book("turned", ["a", "b"]))
        self.assertEqual(found.count(100), 4 * 3 ** 99)
        self.assertEqual(found.nth(100, 0), "A" * 100)
        self.assertEqual(found.nth(100, 4 * 3 ** 99 - 1), "b" * 100)
        self.assertEqual(machine(AAA).count(n=100), 1)
        self.assertEqual([machine(AAA).count(n) for n in (3, 0, 2, 1, 4)], [1, 1, 0, 0, 1])
        self.assertEqual(machine(Book("any", [])).count(100), 0)
        self.assertEqual(machine(AAA).nth(0, 0), "")

    def test_bad_numbers(self):
        found = machine(AAA)
        for n in NO_NUMBERS:
            self.assertIs(raised(BadNumber, found.count, n).number, n)
            for i in (0, -1, None):
                self.assertIs(raised(BadNumber, found.nth, n, i).number, n)
            self.assertIs(raised(BadNumber, found.nth, 3, n).number, n)
            self.assertIs(raised(BadNumber, found.nth, 1, n).number, n)


class Compared(unittest.TestCase):
    def test_equal(self):
        for one in BOOKS:
            for other in BOOKS:
                same = machine(one).rows() == machine(other).rows()
                self.assertIs(machine(one) == machine(other), same)
                self.assertIs(machine(one) != machine(other), not same)
        self.assertEqual(machine(Book("any", ["a", "ab", "b"])), machine(Book("any", ["b", "a"])))
        self.assertEqual(machine(Book("turned", ["ab", "B"])), machine(Book("turned", ["a", "b"])))
        self.assertEqual(machine(Book("any", [])), machine(Book("turned", [])))
        self.assertNotEqual(machine(Book("any", ["a"])), machine(Book("turned", ["a"])))

    def test_unequal_to_other_objects(self):
        for other in NO_MACHINES:
            self.assertIs(machine(AAA) == other, False)
            self.assertIs(other == machine(AAA), False)
            self.assertIs(machine(AAA) != other, True)

    def test_asking_changes_nothing(self):
        one = machine(AAA)
        one.count(50)
        one.nth(20, 0)
        self.assertEqual(one, machine(AAA))

    def test_first_lacking_by_hand(self):
        for one, other, word in [(["aaa", "aaaa"], ["aaa"], "aaaa"), (["aaa"], ["aaa", "aaaa"], None), (["a"], [], "a"),
                                 ([], ["a"], None), (["a", "b"], ["a"], "b"), (["b", "a"], ["c"], "a"),
                                 (["ab", "ba"], ["ab"], "ba"), (["aa", "b"], ["b"], "aa"), (["aab", "bb"], ["aa"], "bb")]:
            self.assertEqual(machine(Book("any", one)).first_lacking(machine(Book("any", other))), word)
        one, other = machine(Book("turned", ["a", "b"])), machine(Book("turned", ["a"]))
        self.assertEqual(one.first_lacking(other), "B")
        self.assertIs(other.first_lacking(one), None)
        # The empty string can be what lacks.
        self.assertEqual(one.first_lacking(one.less(one)), "")
        self.assertIs(one.less(one).first_lacking(one), None)

    def test_first_lacking_among_all_words(self):
        found = [(machine(book), strings_of(machine(book), "ABab", 5)) for book in BOOKS]
        for one, words in found:
            for other, others in found:
                lacking = set(words) - set(others)
                first = one.first_lacking(other=other)
                if lacking:
                    self.assertEqual(first, min(lacking, key=lambda word: (len(word), word)))
                elif first is not None:
                    self.assertTrue(len(first) > 5 and one.has(first) and not other.has(first))

    def test_bad_machine(self):
        found = machine(AAA)
        for other in NO_MACHINES:
            for call in (found.first_lacking, found.both, found.either, found.less):
                self.assertIs(raised(BadMachine, call, other).machine, other)


class MadeOfTwo(unittest.TestCase):
    def test_among_all_words(self):
        found = [(machine(book), set(strings_of(machine(book), "ABab", 4))) for book in BOOKS]
        for one, words in found:
            for other, others in found:
                both, either, less = made_of(one, other)
                self.assertEqual(set(strings_of(both, "ABab", 4)), words & others)
                self.assertEqual(set(strings_of(either, "ABab", 4)), words | others)
                self.assertEqual(set(strings_of(less, "ABab", 4)), words - others)
                for made in (both, either, less):
                    self.assertIs(type(made), Machine)

    def test_without_any_string(self):
        for book in BOOKS:
            nothing = machine(book).less(other=machine(book))
            self.assertEqual(nothing.rows(), [(False, {})])
            self.assertEqual(len(nothing), 1)
            self.assertEqual((nothing.count(0), nothing.count(3), nothing.nth(0, 0)), (0, 0, None))
            self.assertIs(nothing.has(""), False)
            self.assertNotEqual(nothing, machine(Book("any", [])))
            self.assertEqual(nothing.either(machine(book)), machine(book))
            self.assertEqual(machine(book).either(other=nothing), machine(book))
            self.assertEqual(machine(book).less(nothing), machine(book))
            self.assertEqual(nothing.less(machine(book)), nothing)
            self.assertEqual(machine(book).both(other=nothing), nothing)
            self.assertIs(nothing.leads([]), False)
            self.assertEqual(nothing.ends_along([("a", 10 ** 18)]), 0)

    def test_rows_by_hand(self):
        one, other = machine(AAA), machine(Book("any", ["aa"]))
        self.assertEqual(one.less(other).rows(), [(False, {"a": 1}), (False, {"a": 2}), (False, {"a": 3}), (True, {"a": 2})])
        self.assertEqual(other.less(one).rows(), [(False, {"a": 1}), (False, {"a": 2}), (True, {})])
        self.assertEqual(one.both(other).rows(), [(True, {"a": 1}), (False, {"a": 2}), (False, {"a": 3}), (False, {"a": 4}),
                                                  (True, {"a": 3})])
        self.assertEqual(one.either(other).rows(), [(True, {"a": 1}), (False, {"a": 2}), (True, {"a": 2})])
        # The letters are those of both.
        other = machine(Book("any", ["b"]))
        self.assertEqual(one.either(other).rows(), [(True, {"a": 1, "b": 2}), (False, {"a": 3}), (True, {"b": 2}),
                                                    (False, {"a": 4}), (True, {"a": 4})])
        self.assertEqual(one.both(other).rows(), [(True, {})])

    def test_made_again(self):
        one, other, third = [machine(book) for book in (BOOKS[4], BOOKS[5], BOOKS[14])]
        self.assertEqual(one.either(other).either(third), third.either(other.either(one)))
        self.assertEqual(one.less(other).either(one.both(other)), one)
        self.assertEqual(one.less(one.less(other)), one.both(other))
        self.assertIs(one.less(other).first_lacking(one), None)


class Pieces(unittest.TestCase):
    def test_against_the_string_written_out(self):
        dice = random.Random(33)
        for book in BOOKS:
            found = machine(book)
            for made in (found, found.less(machine(AAA)), found.either(machine(AAA))):
                for _ in range(60):
                    words = [dice.choice(words_of(letters_of(book), 3)) for _ in range(dice.randrange(4))]
                    pieces = [(word, dice.choice([0, 1, 2, 3, 7, 20, 41])) for word in words]
                    whole = "".join(word * n for word, n in pieces)
                    self.assertIs(made.leads(pieces), made.has(whole), pieces)
                    self.assertEqual(made.ends_along(pieces),
                                     sum(made.has(whole[:k]) for k in range(len(whole) + 1)), pieces)

    def test_the_empty_string(self):
        found = machine(AAA)
        for pieces in ([], (), [("", 5)], [("a", 0)], [("", 0), ("b", 0), ("", 10 ** 18)]):
            self.assertIs(found.leads(pieces), True)
            self.assertEqual(found.ends_along(pieces), 1)

    def test_great_numbers(self):
        found = machine(AAA)
        for n in (3, 5, 1000, 10 ** 18, 10 ** 20 - 1):
            self.assertIs(found.leads([("a", n)]), True)
            # All beginnings but "a" and "aa".
            self.assertEqual(found.ends_along([("a", n)]), n - 1)
            self.assertEqual(found.ends_along([["aa", n]]), 2 * n - 1)
            self.assertEqual(found.ends_along(pieces=(("a", n), ("", n), ("aaa", n))), 4 * n - 1)
            self.assertEqual(found.ends_along([("a", n), ("b", n), ("a", n)]), n - 1)
            self.assertIs(found.leads([("a", n), ("b", n), ("a", n)]), False)
            self.assertIs(found.leads(pieces=[("a", n), ("b", 0), ("a", n)]), True)
        found = machine(Book("any", ["aaa"]))
        self.assertEqual(found.ends_along([("a", 10 ** 18)]), 10 ** 18 // 3 + 1)
        self.assertIs(found.leads([("a", 10 ** 18)]), False)
        self.assertIs(found.leads([("a", 10 ** 18), ("aa", 1)]), True)
        self.assertEqual(found.ends_along([("a", 10 ** 18), ("aa", 10 ** 18)]), 10 ** 18 + 1)
        self.assertIs(found.leads([("aaaaaaaaaaaaaaaaaaaa", 3 * 10 ** 17)]), True)
        found = machine(Book("turned", ["ab", "ba"]))
        self.assertIs(found.leads([("ab", 10 ** 18), ("AB", 10 ** 18)]), True)
        self.assertEqual(found.ends_along([("ab", 10 ** 18), ("AB", 10 ** 18)]), 2 * 10 ** 18 + 1)
        self.assertIs(found.leads([("ab", 10 ** 18), ("BA", 1)]), False)

    def test_bad_pieces(self):
        found = machine(AAA)
        for call in (found.leads, found.ends_along):
            for pieces in NO_LISTS + ["", "ab", AAA, found]:
                self.assertEqual(raised(BadPiece, call, pieces).index, 0)
            wrong = NO_LISTS + ["", "a1", (), ("a",), ("a", 1, 2), [1, "a"], {"a": 1}, ("1a", 1), ("a ", 1), ("\u00e4", 1),
                                (None, 1), (["a"], 1), (5, 1), (True, 1)] + [("a", n) for n in NO_NUMBERS]
            for piece in wrong:
                for at in range(3):
                    pieces = [("a", 1), ["b", 10 ** 18]]
                    pieces.insert(at, piece)
                    self.assertEqual(raised(BadPiece, call, pieces).index, at)
                    self.assertEqual(raised(BadPiece, call, tuple(pieces + [None])).index, at)

    def test_what_was_passed_stays(self):
        pieces = [["a", 5], ("b", 1)]
        machine(AAA).leads(pieces)
        machine(AAA).ends_along(pieces)
        self.assertEqual(pieces, [["a", 5], ("b", 1)])


class Limits(unittest.TestCase):
    def test_short_times(self):
        begun = time.monotonic()
        books = [Book("any", ["bab", "bbbb", "baab", "aabb", "bbb", "ba", "aba", "bbaa"]),
                 Book("any", ["cbba", "babb", "aaba", "aac", "baab", "cb", "abb", "bbaa"]),
                 Book("any", ["aaaa", "aaba", "abaa", "caba", "acab", "bcaa", "ca", "cccc"]),
                 Book("turned", ["abcabcab", "cbacbac", "aabbc"]), Book("turned", ["aaaaaaa", "bbbbbb", "ccccccc"]),
                 Book("turned", ["abABcCba", "cabcabca", "bcbc"])]
        found = [machine(book) for book in books]
        for one in found:
            self.assertEqual(one.count(100) == 0, one.nth(100, 0) is None)
            one.nth(100, 10 ** 30)
            one.ends_along([("abcabcabcabcabcabcab", 10 ** 20 - 1), ("aab", 10 ** 20 - 1)] * 50)
            for other in found:
                for made in made_of(one, other):
                    made.first_lacking(one)
        # Far above what it takes, far below what reading all strings would.
        self.assertLess(time.monotonic() - begun, 60)


if __name__ == "__main__":
    unittest.main()
