"""Points [39] to [43], and [3] to [5] for groups."""

import random
import time
import unittest

from helping import NO_LISTS, NO_PATHS, raised, some_path, words_of
from toldpaths.books import Book
from toldpaths.errors import BadGroup, BadKept, BadLetter, BadPath
from toldpaths.groups import Group
from toldpaths.paths import back, reduced
from toldpaths.stores import Store
from toldpaths.tells import is_told

# Paths, and the rows of the group that they make.
ROWS = [
    ([], [{}]),
    (["aA"], [{}]),
    (["abBA", "cC"], [{}]),
    (["a"], [{"A": 0, "a": 0}]),
    (["A"], [{"A": 0, "a": 0}]),
    (["a", "a", "A"], [{"A": 0, "a": 0}]),
    (["aa", "aaa"], [{"A": 0, "a": 0}]),
    (["ab", "B"], [{"A": 0, "B": 0, "a": 0, "b": 0}]),
    (["aa"], [{"A": 1, "a": 1}, {"A": 0, "a": 0}]),
    (["aaa"], [{"A": 1, "a": 2}, {"A": 2, "a": 0}, {"A": 0, "a": 1}]),
    (["ab"], [{"B": 1, "a": 1}, {"A": 0, "b": 0}]),
    (["abA"], [{"a": 1}, {"A": 0, "B": 1, "b": 1}]),
    (["abBA", "aaA"], [{"A": 0, "a": 0}]),
    (["abcBA"], [{"a": 1}, {"A": 0, "b": 2}, {"B": 1, "C": 2, "c": 2}]),
    (["aa", "ab"], [{"A": 1, "B": 1, "a": 1}, {"A": 0, "a": 0, "b": 0}]),
    (["aa", "ab", "bb"], [{"A": 1, "B": 1, "a": 1, "b": 1}, {"A": 0, "B": 0, "a": 0, "b": 0}]),
    (["a", "bb", "baB"], [{"A": 0, "B": 1, "a": 0, "b": 1}, {"A": 1, "B": 0, "a": 1, "b": 0}]),
    (["abAB"], [{"a": 1, "b": 2}, {"A": 0, "b": 3}, {"B": 0, "a": 3}, {"A": 2, "B": 1}]),
]

NO_GROUPS = NO_LISTS + ["", "a", [], (), ["a"], [{}], Book("turned", ["a"]), Store("turned", 1, {})]


def some_group(dice, most=4, steps=5):
    return Group([some_path(dice, "turned", steps) for _ in range(dice.randrange(most + 1))])


def some_groups(many, number):
    dice = random.Random(number)
    return [some_group(dice) for _ in range(many)] + [Group(paths) for paths, _ in ROWS]


class Made(unittest.TestCase):
    def test_rows_by_hand(self):
        for paths, rows in ROWS:
            group = Group(paths)
            self.assertEqual(group.rows(), rows, paths)
            self.assertEqual([list(row) for row in group.rows()], [list(row) for row in rows], paths)
            self.assertEqual(len(group), len(rows))
            self.assertEqual(Group(tuple(paths)).rows(), rows)
        self.assertEqual(len(Group(paths=["aa"])), 2)

    def test_rows_as_told(self):
        for group in some_groups(150, 61):
            rows = group.rows()
            named = [0]
            for room, row in enumerate(rows):
                self.assertLess(room, len(named))
                self.assertEqual(list(row), sorted(row))
                self.assertTrue(room == 0 or len(row) >= 2)
                for letter, behind in row.items():
                    self.assertEqual(rows[behind][letter.swapcase()], room)
                    if behind not in named:
                        named.append(behind)
            self.assertEqual(named, list(range(len(rows))))

    def test_the_same_group_of_other_paths(self):
        dice = random.Random(62)
        for _ in range(100):
            paths = [some_path(dice, "turned", 5) for _ in range(4)]
            group = Group(paths)
            one, other = dice.sample(range(4), 2)
            changed = list(paths)
            changed[one] = paths[one] + paths[other]
            self.assertEqual(Group(changed), group)
            changed[other] = back(paths[other])
            self.assertEqual(Group(changed), group)
            self.assertEqual(Group(paths[::-1] + paths + ["aA"]), group)
            self.assertEqual(Group([path for path in map(reduced, paths) if path != ""]), group)
            self.assertEqual(Group(group.basis()), group)

    def test_equal_just_if_the_rows_are(self):
        groups = some_groups(10, 63)
        for one in groups:
            for other in groups:
                same = one.rows() == other.rows()
                self.assertIs(one == other, same)
                self.assertIs(one != other, not same)
        self.assertNotEqual(Group(["aa"]), Group(["a"]))
        for thing in NO_GROUPS:
            self.assertIs(Group([]) == thing, False)
            self.assertIs(thing == Group([]), False)
            self.assertIs(Group([]) != thing, True)

    def test_bad_kept(self):
        for paths in NO_LISTS + ["", "ab", Book("turned", ["a"]), Group([])]:
            self.assertEqual(raised(BadKept, Group, paths).index, 0)
        for wrong in NO_PATHS + ["1a", "a1", "a b"]:
            for at in range(4):
                paths = ["a", "a", "bB"]
                paths.insert(at, wrong)
                self.assertEqual(raised(BadKept, Group, paths).index, at)
                self.assertEqual(raised(BadKept, Group, tuple(paths + [None])).index, at)
        self.assertEqual(len(Group(["aA"] * 30)), 1)

    def test_what_was_passed_and_what_is_returned(self):
        paths = ["ab", "ba"]
        group = Group(paths)
        rows = group.rows()
        self.assertEqual(paths, ["ab", "ba"])
        paths[0] = "c"
        paths.append("d")
        rows[0].clear()
        rows.append({})
        group.basis().append("x")
        self.assertEqual(group, Group(["ab", "ba"]))
        self.assertEqual(group.rows(), Group(["ab", "ba"]).rows())
        other = Group(["aa"])
        joined = group.joined(other)
        joined.rows()[0].clear()
        group.both(other).rows()[0].clear()
        group.turned_by("a")
        self.assertEqual((group, other), (Group(["ab", "ba"]), Group(["aa"])))


class Has(unittest.TestCase):
    def test_by_hand(self):
        for paths, has, lacks in [
                ([], ["", "aA", "abBA", "AabB"], ["a", "ab", "aAb"]),
                (["a"], ["", "a", "A", "aaaa", "aAA", "bBa", "abBa"], ["b", "bab", "abaB"]),
                (["aa", "ab"], ["aa", "ab", "BA", "Ab", "Ba", "abBA", "aaab"], ["a", "b", "ba", "bb", "aab"]),
                (["abA"], ["abbbA", "aBA", "", "abAabA", "aA"], ["b", "a", "ab", "bA", "Aba"]),
                (["abAB"], ["abAB", "baBA", "abABabAB", ""], ["ab", "ABab", "bABa"])]:
            group = Group(paths)
            for path in has:
                self.assertIs(group.has(path), True, (paths, path))
            for path in lacks:
                self.assertIs(group.has(path), False, (paths, path))
        self.assertIs(Group([]).has(path=""), True)

    def test_other_objects(self):
        group = Group(["a", "b"])
        for thing in NO_LISTS + [[], (), ["a"], ("a",), group, "1", "a1", "a b", " ", "a\n", "\u00e4", "aA1"]:
            self.assertIs(group.has(thing), False, thing)

    def test_as_is_told(self):
        dice = random.Random(64)
        for _ in range(40):
            paths = [some_path(dice, "turned", 4) for _ in range(dice.randrange(4))]
            book = Book("turned", sorted(set(paths)))
            group = Group(paths)
            for word in words_of("aAbB", 4):
                self.assertIs(group.has(word), word == "" or is_told(book, word), (paths, word))

    def test_products(self):
        dice = random.Random(65)
        for _ in range(60):
            paths = [some_path(dice, "turned", 5) for _ in range(3)]
            made = "".join(dice.choice(paths + [back(path) for path in paths]) for _ in range(8))
            self.assertIs(Group(paths).has(made), True)
            self.assertIs(Group(paths).has(reduced(made)), True)

    def test_long_strings(self):
        group = Group(["ab", "ba"])
        self.assertIs(group.has("ab" * 50000), True)
        self.assertIs(group.has("ab" * 50000 + "a"), False)
        self.assertIs(group.has("c" * 50000 + "C" * 50000), True)


class Numbers(unittest.TestCase):
    def test_rank(self):
        for paths, rank in [([], 0), (["aA"], 0), (["a"], 1), (["a", "A", "aa"], 1), (["a", "b"], 2), (["ab", "B"], 2),
                            (["aa", "ab", "bb"], 3), (["abA"], 1), (["aa", "bb"], 2), (["a", "bb", "baB"], 3),
                            (["abAB"], 1), (["a", "bab", "bbabb"], 3), (["aab", "ab", "b"], 2)]:
            self.assertEqual(Group(paths).rank(), rank, paths)

    def test_cosets(self):
        for paths, letters, many in [([], "", 1), ([], "a", None), ([], "ba", None), (["a"], "a", 1), (["a"], "ab", None),
                                     (["a", "b"], "ab", 1), (["a", "b"], "ba", 1), (["a", "b"], "abc", None),
                                     (["aa"], "a", 2), (["aaaaa"], "a", 5), (["aa", "ab", "bb"], "ab", 2),
                                     (["aa", "ab", "bb"], "xab", None), (["aa", "ab"], "ab", None),
                                     (["a", "bb", "baB"], "ba", 2), (["abA"], "ab", None), (["aA"], "", 1)]:
            self.assertEqual(Group(paths).cosets(letters), many, (paths, letters))
        self.assertEqual(Group(["aa"]).cosets(letters="a"), 2)

    def test_rank_of_cosets(self):
        found = 0
        for group in some_groups(400, 66):
            many = group.cosets("ab") if all(x in "aAbB" for row in group.rows() for x in row) else None
            if many is not None:
                self.assertEqual(group.rank(), many * (2 - 1) + 1)
                found += 1
        self.assertGreater(found, 10)

    def test_bad_letter(self):
        for letters in NO_LISTS + ["A", "aA", "aa", "aba", "a1", "1", " ", "a b", "\u00e4", [], (), ["a"], ("a", "b"),
                                   Group([])]:
            self.assertIs(raised(BadLetter, Group([]).cosets, letters).letter, letters)
        for letters in ["", "a", "c", "ac", "bc"]:
            self.assertIs(raised(BadLetter, Group(["aB"]).cosets, letters).letter, letters)
        # Letters that do not stand in rows() need not be there.
        self.assertIs(Group(["abBA"]).cosets("c"), None)
        self.assertEqual(Group(["abBA"]).cosets(""), 1)

    def test_basis_by_hand(self):
        for paths, basis in [([], []), (["aA"], []), (["a"], ["a"]), (["A"], ["a"]), (["B", "a"], ["a", "b"]),
                             (["aa"], ["aa"]), (["aaa"], ["aaa"]), (["abA"], ["abA"]), (["aa", "ab"], ["aa", "Ab"]),
                             (["aa", "ab", "bb"], ["aa", "ba", "Ab"]), (["a", "bb", "baB"], ["a", "bb", "Bab"]),
                             (["ab"], ["ab"]), (["abcBA"], ["abcBA"]), (["abAB"], ["baBA"])]:
            self.assertEqual(Group(paths).basis(), basis, paths)

    def test_basis_makes_the_group(self):
        for group in some_groups(150, 67):
            basis = group.basis()
            self.assertEqual(len(basis), group.rank())
            self.assertEqual(Group(basis), group)
            self.assertTrue(all(reduced(word) == word and group.has(word) for word in basis))
            for at in range(len(basis)):
                self.assertNotEqual(Group(basis[:at] + basis[at + 1:]), group)


class MadeOfTwo(unittest.TestCase):
    def test_by_hand(self):
        for one, other, both, joined in [
                (["a"], ["b"], [], ["a", "b"]), (["aa"], ["aaa"], ["aaaaaa"], ["a"]), (["a"], [], [], ["a"]),
                (["a", "b"], ["ab"], ["ab"], ["a", "b"]), (["aa", "b"], ["a"], ["aa"], ["a", "b"]),
                (["abA"], ["abbA"], ["abbA"], ["abA"]), (["abA"], ["b"], [], ["abA", "b"]),
                (["aa", "ab", "bb"], ["a", "bb", "baB"], ["aa", "bb", "abba", "baab", "abAB"], ["a", "b"])]:
            one, other = Group(one), Group(other)
            self.assertEqual(one.joined(other), Group(joined))
            self.assertEqual(one.both(other), Group(both))
        self.assertEqual(Group(["aa"]).both(other=Group(["a"])), Group(["aa"]))
        self.assertEqual(Group(["aa"]).joined(other=Group(["a"])), Group(["a"]))

    def test_against_has(self):
        groups = some_groups(12, 68)
        words = words_of("aAbB", 4)
        for one in groups:
            for other in groups:
                both, joined = one.both(other), one.joined(other)
                self.assertIs(type(both), Group)
                self.assertEqual([both.has(word) for word in words],
                                 [one.has(word) and other.has(word) for word in words])
                self.assertEqual(joined, Group(one.basis() + other.basis()))
                self.assertEqual(both, other.both(one))
                self.assertEqual(joined, other.joined(one))
                self.assertEqual(one.both(joined), one)
                self.assertEqual(one.joined(both), one)
                if one.rank() >= 1 and other.rank() >= 1:
                    self.assertLessEqual(both.rank() - 1, (one.rank() - 1) * (other.rank() - 1))

    def test_rows_are_as_told(self):
        for group in some_groups(30, 69):
            for made in (group.both(Group(["aa", "b"])), group.joined(Group(["abA"])), group.turned_by("abb")):
                self.assertEqual(made.rows(), Group(made.basis()).rows())

    def test_bad_group(self):
        for other in NO_GROUPS:
            self.assertIs(raised(BadGroup, Group(["a"]).both, other).group, other)
            self.assertIs(raised(BadGroup, Group(["a"]).joined, other).group, other)


class Turned(unittest.TestCase):
    def test_by_hand(self):
        for paths, path, found in [(["b"], "a", ["Aba"]), (["b"], "A", ["abA"]), (["a"], "a", ["a"]), ([], "ab", []),
                                   (["abA"], "a", ["b"]), (["abA"], "ab", ["b"]), (["a", "b"], "ab", ["a", "b"]),
                                   (["aa", "b"], "a", ["aa", "Aba"]), (["a"], "bB", ["a"]), (["a"], "bBc", ["Cac"])]:
            self.assertEqual(Group(paths).turned_by(path), Group(found), (paths, path))
        self.assertEqual(Group(["b"]).turned_by(path="a").rows(), [{"A": 1}, {"B": 1, "a": 0, "b": 1}])

    def test_and_back_again(self):
        dice = random.Random(70)
        for group in some_groups(60, 71):
            path = some_path(dice, "turned", 5)
            found = group.turned_by(path)
            self.assertEqual(found, Group([back(path) + word + path for word in group.basis()]))
            self.assertEqual(found.turned_by(back(path)), group)
            self.assertEqual(found.rank(), group.rank())
            if group.has(path):
                self.assertEqual(found, group)

    def test_bad_path(self):
        for path in NO_PATHS + ["1a"]:
            self.assertIs(raised(BadPath, Group(["a"]).turned_by, path).path, path)
            self.assertIs(raised(BadPath, Group(["a"]).power, path).path, path)


class Power(unittest.TestCase):
    def test_by_hand(self):
        for paths, path, times in [([], "a", None), ([], "aA", 1), (["a"], "a", 1), (["aa"], "a", 2), (["aaaaa"], "a", 5),
                                   (["aaaaa"], "A", 5), (["aaaaa"], "aa", 5), (["aaaaaa"], "aa", 3), (["aaaaaa"], "aaaa", 3),
                                   (["aa"], "b", None), (["baaaB"], "baB", 3), (["baaaB"], "a", None),
                                   (["aa", "ab"], "a", 2), (["aa", "ab"], "b", None), (["aa", "ab", "bb"], "b", 2),
                                   (["aa", "ab", "bb"], "ab", 1), (["abab"], "ab", 2), (["abab"], "ba", None),
                                   (["ab"], "abbB", 1), (["aaa", "b"], "bBa", 3), (["caC", "cbC"], "cabC", 1)]:
            self.assertEqual(Group(paths).power(path), times, (paths, path))
        self.assertEqual(Group(["aa"]).power(path="a"), 2)

    def test_by_trying(self):
        for group in some_groups(40, 72):
            for word in words_of("aAbB", 3)[1:]:
                # No path goes round more rooms than there are.
                tried = [times for times in range(1, len(group) + 2) if group.has(word * times)]
                self.assertEqual(group.power(word), tried[0] if tried else None, (group.rows(), word))


class Limits(unittest.TestCase):
    def test_short_times(self):
        begun = time.monotonic()
        dice = random.Random(73)
        groups = [Group(["a" * 59, "b"]), Group(["a" * 53, "b" * 7]), Group(["aB" * 15, "abAB" * 7]), Group(["a"] * 60)]
        groups += [Group(["".join(dice.choice("abcABC") for _ in range(10)) for _ in range(6)]) for _ in range(4)]
        for one in groups:
            one.basis()
            one.power("a")
            one.cosets("abc")
            for other in groups:
                both = one.both(other)
                self.assertEqual(len(both.basis()), both.rank())
                one.joined(other).rank()
                both.turned_by("abcabcab").power("aBcA")
        self.assertEqual(Group(["a" * 59]).both(Group(["a"])).power("a"), 59)
        # Far above what it takes, far below what trying all strings would.
        self.assertLess(time.monotonic() - begun, 60)


if __name__ == "__main__":
    unittest.main()
