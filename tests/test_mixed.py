"""Points [52] and [53], and [3] to [5] for them."""

import random
import time
import unittest

from helping import NO_LISTS, raised
from toldpaths.errors import BadLetter, BadLink, BadMany, BadPath
from toldpaths.mixed import MixedStore, form, is_mixed
from toldpaths.paths import reduced
from toldpaths.stores import Store

NO_TURNED = ["ba", "aa", "acb", "abb", "A", "aB", "1", "a1", "a b", " ", "\u00e4", None, True, 0, ["a"], ("a", "b"), [], {},
             b"a", 1.5]

# What is no mixed path for the turned letters g and h.
NO_MIXED = ["", "g", "gH", "hh", "A", "aB", "gA", "1a", "a1", "a g", "a\n", "\u00e4", None, True, 0, ["a"], ("a",), [], {},
            b"a", MixedStore("", 1, {})]


def some_mixed(dice, turned, free, most):
    """Make a mixed path."""
    while True:
        letters = [dice.choice(free + (turned + turned.upper()) * dice.randrange(3)) for _ in range(dice.randrange(1, most + 1))]
        if any(letter in free for letter in letters):
            return "".join(letters)


def some_mixed_store(dice, turned, free, many):
    links = {}
    for letter in turned:
        seconds = list(range(many))
        dice.shuffle(seconds)
        links[letter] = list(enumerate(seconds))
    for letter in free:
        share = dice.random()
        links[letter] = [(x, y) for x in range(many) for y in range(many) if dice.random() < share]
    return MixedStore(turned, many, links)


class Making(unittest.TestCase):
    def test_links(self):
        store = MixedStore("gh", 3, {"h": [(2, 0), [0, 1], (1, 2)], "b": ([2, 2], (0, 1)), "g": [(0, 0), (2, 2), (1, 1)],
                                     "a": []})
        self.assertEqual((store.turned, store.many), ("gh", 3))
        self.assertEqual(list(store.links().items()), [("b", [(0, 1), (2, 2)]), ("h", [(0, 1), (1, 2), (2, 0)])])
        self.assertEqual({type(pair) for row in store.links().values() for pair in row}, {tuple})
        self.assertFalse(isinstance(store, Store))
        self.assertEqual(MixedStore("", 1, {}).links(), {})
        # A link that leads each thing to itself is told for a letter that is not turned.
        self.assertEqual(MixedStore("", 2, {"g": [(0, 0), (1, 1)]}).links(), {"g": [(0, 0), (1, 1)]})

    def test_copies(self):
        pair, pairs = [0, 1], [(1, 0)]
        pairs.append(pair)
        links = {"a": pairs, "g": ((1, 0), (0, 1))}
        store = MixedStore("g", 2, links)
        pair[1] = 0
        pairs.append((1, 1))
        links["b"] = [(0, 0)]
        told = {"a": [(0, 1), (1, 0)], "g": [(0, 1), (1, 0)]}
        self.assertEqual(store.links(), told)
        store.links()["a"].append(3)
        store.links().clear()
        store.answer("a").clear()
        self.assertEqual((store.links(), store.answer("a")), (told, [(0, 1), (1, 0)]))
        self.assertEqual(links, {"a": [(1, 0), [0, 0], (1, 1)], "g": ((1, 0), (0, 1)), "b": [(0, 0)]})

    def test_equal(self):
        one = MixedStore("g", 2, {"a": [(0, 1), (0, 0)], "g": [(0, 1), (1, 0)]})
        self.assertTrue(one == MixedStore("g", 2, {"g": ([1, 0], [0, 1]), "b": [], "a": [(0, 0), (0, 1)]}))
        self.assertFalse(one != MixedStore("g", 2, {"g": ([1, 0], [0, 1]), "b": [], "a": [(0, 0), (0, 1)]}))
        self.assertTrue(MixedStore("g", 2, {"g": [(0, 0), (1, 1)]}) == MixedStore("g", 2, {}))
        for other in [MixedStore("gh", 2, {"a": [(0, 1), (0, 0)], "g": [(0, 1), (1, 0)]}),
                      MixedStore("", 2, {"a": [(0, 1), (0, 0)], "g": [(0, 1), (1, 0)]}),
                      MixedStore("g", 3, {"a": [(0, 1), (0, 0)], "g": [(0, 1), (1, 0), (2, 2)]}),
                      MixedStore("g", 2, {"a": [(0, 1), (0, 0)]}), MixedStore("g", 2, {"a": [(0, 1)], "g": [(0, 1), (1, 0)]}),
                      Store("any", 2, one.links()), Store("turned", 2, {"g": [(0, 1), (1, 0)]}), None, 2, "g", one.links(), [one]]:
            self.assertFalse(one == other)
            self.assertTrue(one != other)

    def test_errors_in_order(self):
        for turned in NO_TURNED:
            self.assertIs(raised(BadLetter, MixedStore, turned, 0, None).letter, turned)
        for many in [0, -1, True, False, None, "1", 1.0, [1]]:
            self.assertIs(raised(BadMany, MixedStore, "g", many, None).many, many)
        for links in NO_LISTS[:5] + ["a", [("a", [])], ()]:
            self.assertIs(raised(BadLink, MixedStore, "g", 2, links).letter, links)
        for letter in ["", "A", "G", "ab", "1", 1, None, True, ("a",), b"a"]:
            self.assertIs(raised(BadLink, MixedStore, "g", 2, {"a": [], letter: [], "B": []}).letter, letter)
        for link in NO_LISTS + ["", "ab", [()], [(0,)], [(0, 1, 1)], [(0, 2)], [(2, 0)], [(-1, 0)], [(True, 0)], [(0, False)],
                                [(0, 1), (0, 1)], [(0, 1), [0, 1]], ["ab"], [5], [(0, 1), None]]:
            for letter in ("a", "g"):
                links = {"b": [(0, 1)], letter: link, "c": None}
                self.assertEqual(raised(BadLink, MixedStore, "g", 2, links).letter, letter, link)
        for link in [[], [(0, 1)], [(0, 0), (1, 0)], [(0, 0), (0, 1)], [(0, 1), (1, 1)], ()]:
            self.assertEqual(raised(BadLink, MixedStore, "gh", 2, {"a": link, "h": link, "c": None}).letter, "h")
            self.assertEqual(MixedStore("gh", 2, {"a": link}).links().get("a", []), sorted(link))

    def test_by_name(self):
        store = MixedStore(links={"a": [(0, 0)]}, many=1, turned="g")
        self.assertEqual(store.answer(path="Gag"), [(0, 0)])
        self.assertIs(is_mixed(thing="ag", turned="g"), True)
        self.assertEqual(form(path="ag", turned="g"), ["", "a", "g"])


class Paths(unittest.TestCase):
    def test_is_mixed(self):
        for thing in NO_MIXED:
            self.assertIs(is_mixed("gh", thing), False, thing)
        for path in ["a", "ag", "Ga", "gHabG", "GgGga", "abc" * 10]:
            self.assertIs(is_mixed("gh", path), True, path)
        for turned, path, told in [("", "a", True), ("", "A", False), ("", "ag", True), ("a", "a", False), ("a", "aB", False),
                                   ("a", "Ab", True), ("b", "Ab", False), ("abcdefghijklmnopqrstuvwxyz", "a", False)]:
            self.assertIs(is_mixed(turned, path), told, (turned, path))
        for turned in NO_TURNED:
            self.assertIs(raised(BadLetter, is_mixed, turned, None).letter, turned)
            self.assertIs(raised(BadLetter, form, turned, None).letter, turned)
        for path in NO_MIXED:
            self.assertIs(raised(BadPath, form, "gh", path).path, path)

    def test_form(self):
        for turned, path, wanted in [("gh", "a", ["", "a", ""]), ("gh", "ag", ["", "a", "g"]), ("gh", "ab", ["", "a", "", "b", ""]),
                                     ("gh", "gGaHhb", ["", "a", "", "b", ""]), ("gh", "gHa", ["gH", "a", ""]),
                                     ("gh", "ghHaGGhHgbgg", ["g", "a", "G", "b", "gg"]), ("", "gh", ["", "g", "", "h", ""]),
                                     ("g", "hgHh", None), ("a", "baAb", ["", "b", "", "b", ""]), ("gh", "ghHGa", ["", "a", ""])]:
            if wanted is None:
                self.assertEqual(raised(BadPath, form, turned, path).path, path)
            else:
                self.assertEqual(form(turned, path), wanted, path)
        found = form("g", "ga")
        found.append(1)
        self.assertEqual(form("g", "ga"), ["g", "a", ""])

    def test_drawn_strings(self):
        dice = random.Random(111)
        for _ in range(2000):
            turned = dice.choice(["", "g", "gh", "a"])
            thing = "".join(dice.choice("aagGhH1bA") for _ in range(dice.randrange(6)))
            free = [letter for letter in thing if letter.lower() not in turned]
            wanted = thing.isalpha() and free != [] and all(letter.islower() for letter in free)
            self.assertIs(is_mixed(turned, thing), wanted, (turned, thing))
            if not wanted:
                self.assertEqual(raised(BadPath, form, turned, thing).path, thing)
                continue
            found = form(turned, thing)
            self.assertEqual(found[1::2], free)
            self.assertEqual(len(found), 2 * len(free) + 1)
            marked = "".join("," if letter in free else letter for letter in thing)
            self.assertEqual(found[::2], [reduced(word) if word else "" for word in marked.split(",")])


class Answers(unittest.TestCase):
    def test_by_hand(self):
        store = MixedStore("gh", 4, {"g": [(0, 1), (1, 2), (2, 0), (3, 3)], "a": [(0, 3), (0, 1), (2, 1)], "b": [(2, 2)]})
        for path, wanted in [("a", [(0, 1), (0, 3), (2, 1)]), ("ag", [(0, 2), (0, 3), (2, 2)]), ("ga", [(1, 1), (2, 1), (2, 3)]),
                             ("Ga", [(0, 1), (1, 1), (1, 3)]), ("aG", [(0, 0), (0, 3), (2, 0)]), ("agb", [(0, 2), (2, 2)]),
                             ("ah", [(0, 1), (0, 3), (2, 1)]), ("HaHh", [(0, 1), (0, 3), (2, 1)]), ("ab", []), ("c", []), ("gc", []),
                             ("gggaGGG", [(0, 1), (0, 3), (2, 1)]), ("gb", [(1, 2)])]:
            self.assertEqual(store.answer(path), wanted, path)

    def test_against_stores(self):
        # Without turned letters, or with things that are told for all turned letters, it is as in a Store.
        dice = random.Random(112)
        for _ in range(200):
            store = some_mixed_store(dice, "", "ab", dice.randrange(1, 5))
            path = "".join(dice.choice("ab") for _ in range(dice.randrange(1, 6)))
            self.assertEqual(store.answer(path), Store("any", store.many, store.links()).answer(path))
        for _ in range(200):
            store = some_mixed_store(dice, "gh", "a", dice.randrange(1, 5))
            turned = Store("turned", store.many, {k: row for k, row in store.links().items() if k in "gh"})
            for path in ("gh", "G", "gHg"):
                ahead = dict(turned.answer(path))
                wanted = sorted((x, ahead[y]) for x, y in store.answer("a"))
                self.assertEqual(store.answer("a" + path), wanted)
                wanted = sorted((x, z) for x in ahead for y, z in store.answer("a") if ahead[x] == y)
                self.assertEqual(store.answer(path + "a"), wanted)

    def test_paths_of_one_form(self):
        dice = random.Random(113)
        for _ in range(300):
            store = some_mixed_store(dice, "gh", "ab", dice.randrange(1, 5))
            path = some_mixed(dice, "gh", "ab", 6)
            at = dice.randrange(len(path) + 1)
            step = dice.choice("gGhH")
            other = path[:at] + step + step.swapcase() + path[at:]
            self.assertEqual(form("gh", other), form("gh", path))
            self.assertEqual(store.answer(other), store.answer(path))
            self.assertEqual(store.answer("".join(form("gh", path))), store.answer(path))

    def test_bad_path(self):
        for path in NO_MIXED:
            self.assertIs(raised(BadPath, MixedStore("gh", 1, {}).answer, path).path, path)
        self.assertEqual(raised(BadPath, MixedStore("", 1, {}).answer, "aG").path, "aG")

    def test_full_store(self):
        begun = time.monotonic()
        links = {"a": [(x, y) for x in range(200) for y in range(200)], "g": [(x, (x + 1) % 200) for x in range(200)]}
        self.assertEqual(len(MixedStore("g", 200, links).answer("agaGaaaaaaagga")), 40000)
        self.assertLess(time.monotonic() - begun, 20)


if __name__ == "__main__":
    unittest.main()
