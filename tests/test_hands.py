"""Point [49], and [3] to [5] for it."""

import itertools
import random
import time
import unittest

from helping import MANNERS, NO_LISTS, NO_NUMBERS, NO_PATHS, raised, some_path
from toldpaths.books import Book
from toldpaths.errors import BadHand, BadManner, BadNumber, BadPath
from toldpaths.hands import grants, is_safe, telling
from toldpaths.stores import Store
from toldpaths.tellers import is_told_by
from toldpaths.tells import is_told

NO_MANNERS = ["", "Any", "sets", None, True, 0, ["any"], ("any",), {"any": 1}, b"any", Store("any", 1, {})]


def together(hands, group):
    return list(dict.fromkeys(path for index in group for path in hands[index]))


def knows(manner, hands, group, path):
    """Tell by is_told whether a group knows together what tells a path, as far as a Book can have it."""
    known = together(hands, group)
    if len(known) > 8:
        return is_told_by(manner, known, path)
    return is_told(Book(manner, known), path)


def groups(many, most=None):
    for size in range((many if most is None else min(many, most)) + 1):
        yield from itertools.combinations(range(many), size)


def telling_by_words(manner, hands, path):
    told = [set(group) for group in groups(len(hands)) if knows(manner, hands, group, path)]
    return sorted(sorted(group) for group in told if not any(other < group for other in told))


def is_safe_by_words(manner, hands, k, secrets):
    return not any(knows(manner, hands, group, secret) for group in groups(len(hands), k) for secret in secrets)


def grants_by_words(manner, hands, k, secrets, path):
    found = []
    for index, hand in enumerate(hands):
        given = list(hand) + ([path] if path not in hand else [])
        if is_safe_by_words(manner, list(hands[:index]) + [given] + list(hands[index + 1:]), k, secrets):
            found.append(index)
    return found


def some_hands(dice, manner, most):
    hands = []
    for _ in range(dice.randrange(most + 1)):
        hand = []
        for _ in range(dice.randrange(5)):
            path = some_path(dice, manner, dice.choice([1, 2, 3]), "1")
            hand += [path] if path not in hand else []
        hands.append(dice.choice([list, tuple])(hand))
    return dice.choice([list, tuple])(hands)


class ByHand(unittest.TestCase):
    def test_telling(self):
        hands = [["ab", "b"], ["bc"], ["a", "c"], ["b"]]
        self.assertEqual(sorted(telling("any", hands, "abc")), [[0, 1], [0, 2], [1, 2], [2, 3]])
        self.assertEqual(telling("any", hands, "d"), [])
        self.assertEqual(telling("any", [], "a"), [])
        self.assertEqual(sorted(telling("matched", hands, "abC")), [[0, 2], [2, 3]])
        self.assertEqual(sorted(telling("turned", hands, "a")), [[0], [2]])
        self.assertEqual(telling("turned", hands, "dD"), [[]])
        self.assertEqual(telling("turned", [], "aA"), [[]])
        self.assertEqual(telling("matched", [], "aA"), [])
        self.assertEqual(telling("any", [["aaa"], ["aaaa"], ["aaa"]], "aaaaa"), [[0, 1], [1, 2]])
        found = telling("any", hands, "ab")
        self.assertEqual({type(row) for row in found}, {list})
        found[0].append(7)
        found.clear()
        self.assertEqual(sorted(telling("any", hands, "ab")), [[0], [2, 3]])

    def test_is_safe(self):
        hands = [["ab"], ["b"], ["bc"], ["a"]]
        for k, secrets, told in [(0, ["abc"], True), (1, ["abc"], True), (2, ["abc"], False), (3, ["abc"], False),
                                 (9, ["abc"], False), (1, ["ab"], False), (0, ["ab"], True), (4, ["c", "ac"], True),
                                 (4, [], True), (3, ["c", "abb"], False), (10 ** 20, ["c"], True)]:
            self.assertIs(is_safe("any", hands, k, secrets), told, (k, secrets))
        # ab, b and bc tell abc by three hands; a and bc by two.
        self.assertIs(is_safe("any", hands[:3], 2, ["abc"]), True)
        self.assertIs(is_safe("any", hands[:3], 3, ("abc",)), False)
        self.assertIs(is_safe("turned", [], 0, ["aA"]), False)
        self.assertIs(is_safe("turned", [["a"]], 0, ["a"]), True)
        self.assertIs(is_safe("turned", [["a"]], 0, ["b", "abBA"]), False)
        self.assertIs(is_safe("matched", [["a"]], 0, ["abBA"]), True)
        self.assertIs(is_safe("any", [], 5, ["a"]), True)

    def test_grants(self):
        hands = [["ab"], ["b"], ["bc"]]
        self.assertEqual(grants("any", hands, 1, ["abc"], "a"), [0, 1])
        self.assertEqual(grants("any", hands, 2, ["abc"], "a"), [])
        self.assertEqual(grants("any", hands, 2, ["abc"], "c"), [])
        self.assertEqual(grants("any", hands, 2, ["abc"], "d"), [0, 1, 2])
        self.assertEqual(grants("any", hands, 2, ["abc"], "b"), [1])
        self.assertEqual(grants("any", hands, 3, ["abc"], "b"), [])
        self.assertEqual(grants("any", hands, 0, ["abc"], "abc"), [0, 1, 2])
        self.assertEqual(grants("any", hands, 1, ["abc"], "abc"), [])
        self.assertEqual(grants("any", [], 1, ["abc"], "abc"), [])
        # It is not safe, whatever is given.
        self.assertEqual(grants("any", hands, 1, ["ab"], "b"), [])
        self.assertEqual(grants("turned", hands, 0, ["aA"], "b"), [])
        # One that knows four paths can be given a fifth one; one that is known changes nothing.
        four = [["a", "b", "c", "d"], ["e"]]
        self.assertEqual(grants("any", four, 1, ["ae"], "f"), [0, 1])
        self.assertEqual(grants("any", four, 1, ["ae"], "e"), [1])
        self.assertEqual(grants("any", four, 1, ["ae"], "a"), [0])
        self.assertEqual(grants("any", four, 2, ["ag"], "a"), [0, 1])

    def test_by_name(self):
        hands = [["a"]]
        self.assertEqual(telling(path="a", hands=hands, manner="any"), [[0]])
        self.assertIs(is_safe(secrets=["a"], k=1, hands=hands, manner="any"), False)
        self.assertEqual(grants(path="b", secrets=["b"], k=0, hands=hands, manner="any"), [0])


class AtRandom(unittest.TestCase):
    def test_against_is_told_over_all_groups(self):
        dice = random.Random(101)
        many = {True: 0, False: 0}
        for _ in range(500):
            manner = dice.choice(MANNERS)
            hands = some_hands(dice, manner, 4)
            path = some_path(dice, manner, 4, "1")
            self.assertEqual(sorted(telling(manner, hands, path)), telling_by_words(manner, hands, path), (hands, path))
            k = dice.randrange(len(hands) + 2)
            secrets = [some_path(dice, manner, 4, "1") for _ in range(dice.randrange(3))]
            told = is_safe_by_words(manner, hands, k, secrets)
            many[told] += 1
            self.assertIs(is_safe(manner, hands, k, secrets), told, (hands, k, secrets))
            more = dice.choice([path] + [other for hand in hands for other in hand])
            self.assertEqual(grants(manner, hands, k, secrets, more), grants_by_words(manner, hands, k, secrets, more))
        self.assertGreater(min(many.values()), 50)

    def test_nothing_is_changed(self):
        hands, secrets = [["a"], ("b", "ab")], ["ab"]
        for manner in MANNERS:
            telling(manner, hands, "ab").append(1)
            is_safe(manner, hands, 1, secrets)
            grants(manner, hands, 0, secrets, "c").append(1)
            self.assertEqual((hands, secrets), ([["a"], ("b", "ab")], ["ab"]))
            self.assertEqual(grants(manner, hands, 0, secrets, "c"), [0, 1])

    def test_short_times(self):
        begun = time.monotonic()
        for manner in MANNERS:
            hands = [["abab", "ba", "ab"], ["bcbc", "cb"], ["cdcd", "dc"], ["dada", "ad"], ["aaaa", "aa"], ["bbb", "b"]]
            self.assertLessEqual(sum(len(path) for path in together(hands, range(6))), 40)
            self.assertEqual(sorted(telling(manner, hands, "abcdabcd")), telling_by_words(manner, hands, "abcdabcd"))
            secrets = ["abcdabcd", "aaa", "cdc", "bcd"]
            for k in range(8):
                self.assertIs(is_safe(manner, hands, k, secrets), is_safe_by_words(manner, hands, k, secrets))
                self.assertEqual(grants(manner, hands, k, secrets, "a"), grants_by_words(manner, hands, k, secrets, "a"))
        self.assertLess(time.monotonic() - begun, 30)


class Wrong(unittest.TestCase):
    def test_bad_manner(self):
        for manner in NO_MANNERS:
            for call, rest in [(telling, (None,)), (is_safe, (-1, None)), (grants, (-1, None, None))]:
                self.assertIs(raised(BadManner, call, manner, None, *rest).manner, manner)

    def test_bad_hand(self):
        for manner, wrong in [("any", "aB"), ("matched", "1a"), ("turned", "a1")]:
            for call, rest in [(telling, (None,)), (is_safe, (-1, None)), (grants, (-1, None, None))]:
                for hands in NO_LISTS + ["", "ab", Store("any", 1, {})]:
                    self.assertEqual(raised(BadHand, call, manner, hands, *rest).index, 0)
                for hand in NO_LISTS + ["", "a", "ab", ["a", "b", "c", "d", "e"], ["a", "b", "a"], ["a", wrong], [wrong], [["a"]]]:
                    self.assertEqual(raised(BadHand, call, manner, [["a"], [], hand, None], *rest).index, 2)
                    self.assertEqual(raised(BadHand, call, manner, (hand, hand), *rest).index, 0)
                for path in NO_PATHS:
                    self.assertEqual(raised(BadHand, call, manner, [["a"], ("b", path)], *rest).index, 1)
                self.assertEqual(raised(BadHand, call, manner, [["a"]] * 7, *rest).index, 6)
                self.assertEqual(raised(BadHand, call, manner, [["a"]] * 6 + [None, None], *rest).index, 6)
                self.assertEqual(raised(BadHand, call, manner, [["a"]] * 5 + [None, None], *rest).index, 5)

    def test_bad_number(self):
        for manner in MANNERS:
            for k in NO_NUMBERS:
                self.assertIs(raised(BadNumber, is_safe, manner, [["a"]], k, None).number, k)
                self.assertIs(raised(BadNumber, grants, manner, [["a"]], k, None, None).number, k)

    def test_bad_path(self):
        for manner, wrong in [("any", "aB"), ("matched", "1a"), ("turned", "a1")]:
            for path in NO_PATHS + [wrong]:
                self.assertIs(raised(BadPath, telling, manner, [["a"]], path).path, path)
                self.assertIs(raised(BadPath, is_safe, manner, [["a"]], 1, ["a", path, None]).path, path)
                self.assertIs(raised(BadPath, grants, manner, [["a"]], 1, ["a", path], None).path, path)
                self.assertIs(raised(BadPath, grants, manner, [["a"]], 1, ["a"], path).path, path)
                self.assertIs(raised(BadPath, grants, manner, [], 1, [], path).path, path)
            for secrets in NO_LISTS + ["", "a", "ab"]:
                self.assertIs(raised(BadPath, is_safe, manner, [["a"]], 1, secrets).path, secrets)
                self.assertIs(raised(BadPath, grants, manner, [["a"]], 1, secrets, None).path, secrets)


if __name__ == "__main__":
    unittest.main()
