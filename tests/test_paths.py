"""Points [6] to [9], and the tree of [16]."""

import itertools
import unittest

from helping import raised
from toldpaths.errors import BadManner, BadPath, BadPlace
from toldpaths.paths import back, is_path, joined, marks, piece, reduced, steps, tree
from toldpaths.stores import Store

NO_STRINGS = [None, True, False, 0, 7, ["a"], ("a", "b"), [], (), {}, {"a": 1}, b"a",
              Store("any", 2, {"a": [(0, 1)]}), ["ab"], 1.5]

PLAIN = ["a", "z", "ab", "aa", "abcdefgh", "zyx"]
CAPITALS = ["A", "Z", "aA", "Aa", "aBcD", "ZYX"]
MARKED = ["1a", "a1", "1ab23c", "0a", "a9", "0123456789a", "a0123456789", "1a1b1", "01a02", "a13b24c5"]
NO_PATHS = ["", "1", "12", "11a", "21a", "a11", "a21", "a1b32", "a1b33c", "1A", "A1", "a1B", "A1b",
            "aB1", "1aB", "a b", " a", "a ", "a\n", "\u00e4", "a\u00e4", "\u00c4", "\u00e9b", "\u0661a",
            "a\u00b2", "a\uff11", "\uff41", "a-", "a_b", "-1a", "+", "\u0131", "\u212a", "a\ud800", "\x00a"]


class IsPath(unittest.TestCase):
    def test_paths_of_each_manner(self):
        for path in PLAIN:
            for manner in ("any", "matched", "turned"):
                self.assertIs(is_path(manner, path), True, path)
        for path in CAPITALS:
            self.assertIs(is_path("any", path), False, path)
            self.assertIs(is_path("matched", path), True, path)
            self.assertIs(is_path("turned", path), True, path)
        for path in MARKED:
            self.assertIs(is_path("any", path), True, path)
            self.assertIs(is_path("matched", path), False, path)
            self.assertIs(is_path("turned", path), False, path)

    def test_no_paths(self):
        for thing in NO_PATHS + NO_STRINGS:
            for manner in ("any", "matched", "turned"):
                self.assertIs(is_path(manner, thing), False, repr(thing))

    def test_all_signs(self):
        small = "abcdefghijklmnopqrstuvwxyz"
        for number in range(600):
            sign = chr(number)
            self.assertIs(is_path("any", sign), sign in small)
            self.assertIs(is_path("matched", sign), sign in small + small.upper())
            self.assertIs(is_path("turned", sign), sign in small + small.upper())
            self.assertIs(is_path("any", "a" + sign), sign in small + "0123456789")

    def test_long_strings(self):
        self.assertIs(is_path("any", "ab1" * 5000), True)
        self.assertIs(is_path("turned", "aB" * 5000), True)
        self.assertIs(is_path("any", "0123456789" * 2 + "a"), False)

    def test_no_manners(self):
        for manner in ["", "Any", "any ", "sets", "costs", None, True, 0, ["any"], ("any", "matched", "turned"),
                       {"any": 1}, b"any", [], Store("any", 1, {})]:
            for thing in ["a", 5]:
                self.assertIs(raised(BadManner, is_path, manner, thing).manner, manner)

    def test_by_name(self):
        self.assertIs(is_path(thing="1a", manner="any"), True)


class StepsAndMarks(unittest.TestCase):
    def test_the_document_s_example(self):
        self.assertEqual(steps("1ab23c"), ["a", "b", "c"])
        self.assertEqual(marks("1ab23c"), ["1", "", "23", ""])

    def test_each_manner(self):
        self.assertEqual(steps("aBc"), ["a", "B", "c"])
        self.assertEqual(marks("aBc"), ["", "", "", ""])
        self.assertEqual(steps("a"), ["a"])
        self.assertEqual(marks("a"), ["", ""])
        self.assertEqual(marks("0a9"), ["0", "9"])
        self.assertEqual(marks("a0123456789"), ["", "0123456789"])

    def test_they_make_the_path(self):
        for path in PLAIN + CAPITALS + MARKED:
            kinds = marks(path)
            self.assertEqual(len(kinds), len(steps(path)) + 1)
            self.assertEqual(kinds[0] + "".join(s + k for s, k in zip(steps(path), kinds[1:])), path)

    def test_new_lists(self):
        first = steps("ab")
        first.append("c")
        self.assertEqual(steps("ab"), ["a", "b"])
        first = marks("a1")
        first.clear()
        self.assertEqual(marks("a1"), ["", "1"])
        self.assertIs(type(steps("ab")), list)
        self.assertIs(type(marks("ab")), list)

    def test_wrong(self):
        for thing in NO_PATHS + NO_STRINGS:
            self.assertIs(raised(BadPath, steps, thing).path, thing)
            self.assertIs(raised(BadPath, marks, path=thing).path, thing)

    def test_by_name(self):
        self.assertEqual(steps(path="ab"), ["a", "b"])
        self.assertEqual(marks(path="ab"), ["", "", ""])


class Piece(unittest.TestCase):
    def test_the_document_s_example(self):
        found = {(i, j): piece("1ab23c", i, j) for i in range(4) for j in range(i + 1, 4)}
        self.assertEqual(found, {(0, 1): "1a", (0, 2): "1ab23", (0, 3): "1ab23c", (1, 2): "b23",
                                 (1, 3): "b23c", (2, 3): "23c"})

    def test_each_manner(self):
        self.assertEqual(piece("aBcD", 1, 3), "Bc")
        self.assertEqual(piece("abc", 0, 3), "abc")
        self.assertEqual(piece("a", 0, 1), "a")
        self.assertEqual(piece("1a2b3", 1, 2), "2b3")
        self.assertEqual(piece(j=2, i=0, path="ABC"), "AB")

    def test_pieces_make_the_path(self):
        for path in PLAIN + CAPITALS + MARKED:
            last = len(steps(path))
            self.assertEqual(piece(path, 0, last), path)
            for place in range(1, last):
                self.assertEqual(joined(piece(path, 0, place), piece(path, place, last)), path)

    def test_wrong_places(self):
        for place in [True, False, None, -1, 4, 100, "0", "", [0], (1,), {}, 1.0, [1, 2]]:
            self.assertIs(raised(BadPlace, piece, "abc", place, 3).place, place)
            self.assertIs(raised(BadPlace, piece, "abc", 0, place).place, place)

    def test_j_not_greater(self):
        for i, j in [(0, 0), (1, 1), (3, 3), (2, 1), (3, 0), (1, 0)]:
            self.assertEqual(raised(BadPlace, piece, "abc", i, j).place, j)
        self.assertIs(raised(BadPlace, piece, "abc", 1, True).place, True)
        self.assertIs(raised(BadPlace, piece, "abc", False, True).place, False)

    def test_order_of_errors(self):
        i, j, path = ["i"], ["j"], ["a"]
        self.assertIs(raised(BadPath, piece, path, i, j).path, path)
        self.assertIs(raised(BadPlace, piece, "ab", i, j).place, i)
        self.assertEqual(raised(BadPlace, piece, "ab", 3, -1).place, 3)
        for thing in NO_PATHS + NO_STRINGS:
            self.assertIs(raised(BadPath, piece, thing, 0, 1).path, thing)


class Joined(unittest.TestCase):
    def test_kinds_where_they_meet(self):
        for one, other, path in [("a", "b", "ab"), ("1ab2", "23c", "1ab23c"), ("a1", "1b", "a1b"),
                                 ("a3", "12b", "a123b"), ("a02", "13b", "a0123b"), ("a", "5b", "a5b"),
                                 ("a5", "b", "a5b"), ("1a", "b2", "1ab2"), ("a13", "13b", "a13b"),
                                 ("1a9", "0a1", "1a09a1"), ("aB", "Cd", "aBCd"), ("a", "A", "aA"),
                                 ("A", "b", "Ab"), ("1a", "b", "1ab"), ("a", "b1", "ab1")]:
            self.assertEqual(joined(one, other), path)
            self.assertEqual(joined(other=other, one=one), path)

    def test_digits_and_capital_letters(self):
        for one, other in [("1a", "B"), ("A", "b1"), ("A", "1b"), ("a1", "bC"), ("aB", "c0")]:
            self.assertEqual(raised(BadPath, joined, one, other).path, other)

    def test_wrong(self):
        for thing in NO_PATHS + NO_STRINGS:
            self.assertIs(raised(BadPath, joined, thing, "a").path, thing)
            self.assertIs(raised(BadPath, joined, "a", thing).path, thing)
            self.assertIs(raised(BadPath, joined, thing, ["other"]).path, thing)


class Backward(unittest.TestCase):
    def test_back(self):
        for path, gone in [("a", "A"), ("A", "a"), ("ab", "BA"), ("aBc", "CbA"), ("aA", "aA"), ("abcd", "DCBA")]:
            self.assertEqual(back(path), gone)
            self.assertEqual(back(path=gone), path)

    def test_reduced(self):
        for path, left in [("a", "a"), ("aA", ""), ("Aa", ""), ("abB", "a"), ("abBA", ""), ("aBbA", ""),
                           ("aab", "aab"), ("abAB", "abAB"), ("aAa", "a"), ("abBAc", "c"), ("aa", "aa"),
                           ("AbBaC", "C"), ("abcCBA", ""), ("abcCBAa", "a"), ("aAbB", "")]:
            self.assertEqual(reduced(path), left)
            self.assertEqual(reduced(path=path), left)

    def test_reduced_by_hand(self):
        pairs = ["aA", "Aa", "bB", "Bb"]
        for many in range(1, 7):
            for row in itertools.product("aAbB", repeat=many):
                path = left = "".join(row)
                while any(pair in left for pair in pairs):
                    for pair in pairs:
                        left = left.replace(pair, "", 1)
                self.assertEqual(reduced(path), left)
                self.assertEqual(back(back(path)), path)
                self.assertEqual(reduced(path + back(path)), "")

    def test_tree(self):
        for path, found in [("a", ["", "a"]), ("ab", ["", "a", "ab"]), ("abB", ["", "a", "ab"]),
                            ("aA", ["", "a"]), ("bBA", ["", "A", "b"]), ("bBa", ["", "a", "b"]),
                            ("abBc", ["", "a", "ab", "ac"]), ("bBAaab", ["", "A", "a", "b", "ab"]),
                            ("aAAabBBA", ["", "A", "B", "a", "b", "BA"]), ("zZB", ["", "B", "z"]),
                            ("cCbBaAA", ["", "A", "a", "b", "c"])]:
            self.assertEqual(tree(path), found, path)
            self.assertEqual(tree(path=path), found)

    def test_tree_of_all_beginnings(self):
        for row in itertools.product("aAbB", repeat=5):
            path = "".join(row)
            wanted = {""} | {reduced(path[:k]) for k in range(1, 6)}
            found = tree(path)
            self.assertEqual(found, sorted(wanted, key=lambda word: (len(word), word)))
        self.assertIs(type(tree("ab")), list)

    def test_new_lists(self):
        first = tree("ab")
        first.append("x")
        self.assertEqual(tree("ab"), ["", "a", "ab"])

    def test_wrong(self):
        for call in (back, reduced, tree):
            for thing in NO_PATHS + NO_STRINGS + MARKED:
                self.assertIs(raised(BadPath, call, thing).path, thing)


if __name__ == "__main__":
    unittest.main()
