"""Points [10] to [13], and [3], [4] and [5] for stores."""

import copy
import itertools
import random
import time
import unittest

from helping import MANNERS, raised, some_store
from toldpaths.errors import BadKind, BadLink, BadManner, BadMany, BadPath, BadText
from toldpaths.paths import back, marks, steps
from toldpaths.stores import Store


def ways(store, path):
    """Find an answer by trying all rows of things."""
    links, kinds = store.links(), store.kinds()
    found = set()
    for row in itertools.product(range(store.many), repeat=len(steps(path)) + 1):
        if not all(x in kinds.get(kind, []) for x, mark in zip(row, marks(path)) for kind in mark):
            continue
        for x, y, step in zip(row, row[1:], steps(path)):
            pair = (x, y) if step.islower() else (y, x)
            lacking = [pair] if store.manner == "turned" and x == y else []
            if pair not in links.get(step.lower(), lacking):
                break
        else:
            found.add((row[0], row[-1]))
    return sorted(found)


class Made(unittest.TestCase):
    def test_attributes(self):
        store = Store("any", 3, {"b": [(2, 0), (0, 1)], "a": [[1, 1]]}, {"7": [2, 0], "1": (1,)})
        self.assertEqual((store.manner, store.many), ("any", 3))
        self.assertEqual(store.links(), {"a": [(1, 1)], "b": [(0, 1), (2, 0)]})
        self.assertEqual(list(store.links()), ["a", "b"])
        self.assertEqual(store.kinds(), {"1": [1], "7": [0, 2]})
        self.assertEqual(list(store.kinds()), ["1", "7"])
        self.assertIs(type(store.links()["a"][0]), tuple)
        self.assertIs(type(store.kinds()["1"]), list)

    def test_by_name(self):
        store = Store(kinds={"1": [0]}, links={"a": [(0, 0)]}, many=1, manner="any")
        self.assertEqual(store, Store("any", 1, {"a": [(0, 0)]}, {"1": [0]}))
        self.assertEqual(store.answer(path="1a"), [(0, 0)])
        self.assertEqual(Store.of_text(text="store any 1\n"), Store("any", 1, {}))

    def test_lists_and_tuples(self):
        wanted = Store("any", 3, {"a": [(0, 1), (1, 2)]}, {"1": [0, 2]})
        for pairs in [[[0, 1], [1, 2]], ((1, 2), (0, 1)), ([1, 2], (0, 1)), [(1, 2), [0, 1]]]:
            for things in [[2, 0], (0, 2)]:
                store = Store("any", 3, {"a": pairs}, {"1": things})
                self.assertEqual(store, wanted)
                self.assertEqual(store.links(), {"a": [(0, 1), (1, 2)]})
                self.assertEqual(store.kinds(), {"1": [0, 2]})

    def test_bad_manner(self):
        for manner in ["", "some", "ANY", None, True, 3, ["any"], ("any",), {}, Store("any", 1, {})]:
            self.assertIs(raised(BadManner, Store, manner, 0, 5, 5).manner, manner)

    def test_bad_many(self):
        for many in [0, -1, -5, True, False, None, "3", [3], {}, 2.0, Store("any", 1, {})]:
            for manner in MANNERS:
                self.assertIs(raised(BadMany, Store, manner, many, 5, 5).many, many)

    def test_links_is_no_dict(self):
        for links in [None, True, 0, [], [("a", [(0, 1)])], (), "a", Store("any", 1, {})]:
            for manner in MANNERS:
                self.assertIs(raised(BadLink, Store, manner, 2, links, 5).letter, links)

    def test_bad_letters(self):
        for key in ["A", "", "ab", "1", "\u00e4", "-", None, 0, 1, ("a",), True, b"a", "\u0131", "a ", "bc"]:
            self.assertIs(raised(BadLink, Store, "any", 2, {"a": [(0, 1)], key: [(0, 1)]}, 5).letter, key)
            self.assertIs(raised(BadLink, Store, "any", 2, {key: []}).letter, key)

    def test_bad_values(self):
        for value in [None, True, 0, "", "01", {}, {(0, 1): 1}, [0, 1], [(0, 1), 1], [(0,)], [(0, 1, 1)],
                      [()], ["01"], [None], [(0, 2)], [(2, 0)], [(-1, 0)], [(0, -1)], [(True, 0)],
                      [(0, True)], [(False, False)], [(0, "1")], [(None, 0)], [([0], 1)], [(0, 1.0)],
                      [(0, 1), (0, 1)], [(0, 1), [0, 1]], ([0, 1], [1, 1], (0, 1)), [{0: 1, 1: 0}],
                      Store("any", 1, {})]:
            for manner in MANNERS:
                links = {"b": [(0, 1), (1, 0)], "x": value}
                self.assertEqual(raised(BadLink, Store, manner, 2, links, 5).letter, "x", repr(value))

    def test_first_letter_in_the_order_of_the_dict(self):
        self.assertEqual(raised(BadLink, Store, "any", 2, {"z": 1, "a": 1}).letter, "z")
        self.assertEqual(raised(BadLink, Store, "any", 2, {"z": [], "b": 1, "A": []}).letter, "b")
        self.assertEqual(raised(BadLink, Store, "any", 2, {"z": [], "A": [], "b": 1}).letter, "A")
        key = ("a", "b")
        self.assertIs(raised(BadLink, Store, "any", 2, {"a": [], key: []}).letter, key)

    def test_matched(self):
        for pairs in [[(0, 1), (0, 2)], [(0, 1), (2, 1)], [(0, 0), (0, 1)], [(0, 1), (1, 1)]]:
            self.assertEqual(raised(BadLink, Store, "matched", 3, {"a": pairs}).letter, "a")
            self.assertEqual(raised(BadLink, Store, "turned", 3, {"a": pairs}).letter, "a")
            Store("any", 3, {"a": pairs})
        for pairs in [[], [(0, 0)], [(0, 1)], [(0, 1), (1, 0)], [(0, 1), (1, 2), (2, 0)]]:
            self.assertEqual(Store("matched", 3, {"a": pairs}).links(), {"a": pairs} if pairs else {})

    def test_turned(self):
        for pairs in [[], [(0, 0)], [(0, 1), (1, 0)], [(0, 1), (1, 2)], [(0, 0), (1, 1)],
                      [(0, 1), (1, 2), (2, 1)], [(0, 1), (0, 2), (2, 0)],
                      [(0, 0), (1, 1), (2, 2), (0, 0)]]:
            self.assertEqual(raised(BadLink, Store, "turned", 3, {"a": pairs}).letter, "a")
        self.assertEqual(Store("turned", 3, {"a": [(2, 0), (0, 1), (1, 2)]}).links(), {"a": [(0, 1), (1, 2), (2, 0)]})

    def test_kinds_is_no_dict(self):
        for kinds in [True, False, 0, [], (), "1", [("1", [0])], Store("any", 1, {})]:
            for manner in MANNERS:
                self.assertIs(raised(BadKind, Store, manner, 2, {}, kinds).kind, kinds)

    def test_bad_digits(self):
        for key in ["a", "", "12", "01", "\u0661", "\u00b2", None, 0, 1, ("1",), True, " ", "-", "1 "]:
            self.assertIs(raised(BadKind, Store, "any", 2, {}, {"1": [0], key: [0]}).kind, key)
            self.assertIs(raised(BadKind, Store, "any", 2, {}, {key: []}).kind, key)

    def test_bad_things(self):
        for value in [None, True, 0, "0", {}, {0: 1}, [2], [-1], [True], [False], ["0"], [None], [[0]],
                      [(0,)], [0, 0], (1, 0, 1), [0, 1.0], Store("any", 1, {})]:
            self.assertEqual(raised(BadKind, Store, "any", 2, {}, {"3": [0], "1": value}).kind, "1", repr(value))

    def test_first_kind_in_the_order_of_the_dict(self):
        self.assertEqual(raised(BadKind, Store, "any", 2, {}, {"9": 0, "1": 0}).kind, "9")
        self.assertEqual(raised(BadKind, Store, "any", 2, {}, {"9": [0], "x": [], "1": 0}).kind, "x")

    def test_kinds_for_other_manners(self):
        for manner in ("matched", "turned"):
            self.assertEqual(raised(BadKind, Store, manner, 2, {}, {"9": [], "x": 0}).kind, "9")
            self.assertEqual(raised(BadKind, Store, manner, 2, {}, {"x": 0, "9": []}).kind, "x")
            self.assertEqual(Store(manner, 2, {}, {}).kinds(), {})
            self.assertEqual(Store(manner, 2, {}, None).kinds(), {})

    def test_order_of_errors(self):
        self.assertEqual(raised(BadManner, Store, "x", 0, None, 0).manner, "x")
        self.assertEqual(raised(BadMany, Store, "any", 0, None, 0).many, 0)
        self.assertEqual(raised(BadLink, Store, "any", 1, None, 0).letter, None)
        self.assertEqual(raised(BadLink, Store, "any", 1, {"a": 1}, 0).letter, "a")
        self.assertEqual(raised(BadKind, Store, "any", 1, {"a": []}, 0).kind, 0)


class LeftOut(unittest.TestCase):
    def test_empty_links_and_kinds(self):
        store = Store("any", 2, {"c": [], "a": [(0, 0)], "b": ()}, {"1": [], "0": [1], "2": ()})
        self.assertEqual(store.links(), {"a": [(0, 0)]})
        self.assertEqual(store.kinds(), {"0": [1]})
        self.assertEqual(store, Store("any", 2, {"a": [(0, 0)]}, {"0": [1]}))
        self.assertEqual(Store("matched", 2, {"a": []}), Store("matched", 2, {}))
        self.assertEqual(Store("matched", 2, {"a": [(0, 0), (1, 1)]}).links(), {"a": [(0, 0), (1, 1)]})

    def test_turned_that_leads_to_itself(self):
        same = [(0, 0), (1, 1), (2, 2)]
        store = Store("turned", 3, {"b": [(1, 0), (0, 1), (2, 2)], "a": same})
        self.assertEqual(store.links(), {"b": [(0, 1), (1, 0), (2, 2)]})
        self.assertEqual(store, Store("turned", 3, {"b": [(2, 2), (1, 0), (0, 1)]}))
        self.assertEqual(Store("turned", 3, {"a": same}), Store("turned", 3, {}))
        self.assertEqual(Store("turned", 1, {"a": [(0, 0)]}).links(), {})

    def test_equal(self):
        stores = [Store("any", 2, {}), Store("any", 3, {}), Store("matched", 2, {}), Store("turned", 2, {}),
                  Store("any", 2, {"a": [(0, 1)]}), Store("any", 2, {"b": [(0, 1)]}),
                  Store("any", 2, {"a": [(1, 0)]}), Store("any", 2, {"a": [(0, 1), (1, 0)]}),
                  Store("matched", 2, {"a": [(0, 1), (1, 0)]}), Store("turned", 2, {"a": [(0, 1), (1, 0)]}),
                  Store("any", 2, {}, {"1": [0]}), Store("any", 2, {}, {"2": [0]}), Store("any", 2, {}, {"1": [1]}),
                  Store("any", 2, {}, {"1": [0, 1]}), Store("any", 2, {"a": [(0, 1)]}, {"1": [0]})]
        for at, one in enumerate(stores):
            for other_at, other in enumerate(stores):
                again = Store(other.manner, other.many, other.links(), other.kinds())
                self.assertIs(one == again, at == other_at)
                self.assertIs(one != again, at != other_at)

    def test_unequal_to_other_objects(self):
        store = Store("any", 2, {"a": [(0, 1)]})
        for other in [None, True, 0, 2, "any", store.text(), [], (), {}, store.links(), ("any", 2, store.links(), {})]:
            self.assertIs(store == other, False)
            self.assertIs(other == store, False)
            self.assertIs(store != other, True)

    def test_order_of_pairs_does_not_count(self):
        one = Store("any", 3, {"b": [(2, 1), (0, 1)], "a": [(1, 1)]}, {"2": [2, 0], "1": [1]})
        other = Store("any", 3, {"a": [(1, 1)], "b": [(0, 1), (2, 1)]}, {"1": [1], "2": [0, 2]})
        self.assertIs(one == other, True)


class Answers(unittest.TestCase):
    def test_along_and_back(self):
        store = Store("matched", 4, {"a": [(0, 1), (1, 2)], "b": [(2, 3), (1, 1)]})
        for path, found in [("a", [(0, 1), (1, 2)]), ("A", [(1, 0), (2, 1)]), ("ab", [(0, 1), (1, 3)]),
                            ("aA", [(0, 0), (1, 1)]), ("Aa", [(1, 1), (2, 2)]), ("abB", [(0, 1), (1, 2)]),
                            ("aa", [(0, 2)]), ("aaa", []), ("Ab", [(2, 1)]), ("BA", [(1, 0), (3, 1)])]:
            self.assertEqual(store.answer(path), found, path)

    def test_turned(self):
        store = Store("turned", 3, {"a": [(0, 1), (1, 2), (2, 0)]})
        for path, found in [("a", [(0, 1), (1, 2), (2, 0)]), ("A", [(0, 2), (1, 0), (2, 1)]),
                            ("aaa", [(0, 0), (1, 1), (2, 2)]), ("z", [(0, 0), (1, 1), (2, 2)]),
                            ("Z", [(0, 0), (1, 1), (2, 2)]), ("zaZ", [(0, 1), (1, 2), (2, 0)])]:
            self.assertEqual(store.answer(path), found, path)

    def test_kinds_at_all_places(self):
        store = Store("any", 4, {"a": [(0, 1), (0, 2), (3, 1)], "b": [(1, 3), (2, 3), (2, 0)]},
                      {"1": [0, 2], "2": [2, 3], "3": [1]})
        for path, found in [("ab", [(0, 0), (0, 3), (3, 3)]), ("1ab", [(0, 0), (0, 3)]), ("2ab", [(3, 3)]),
                            ("a1b", [(0, 0), (0, 3)]), ("a3b", [(0, 3), (3, 3)]), ("a12b", [(0, 0), (0, 3)]),
                            ("a13b", []), ("ab1", [(0, 0)]), ("ab2", [(0, 3), (3, 3)]), ("ab12", []),
                            ("1a2b1", [(0, 0)]), ("12ab", []), ("a2", [(0, 2)]), ("3a", []), ("1a3", [(0, 1)])]:
            self.assertEqual(store.answer(path), found, path)

    def test_letters_and_digits_that_lack(self):
        store = Store("any", 2, {"a": [(0, 1)]}, {"1": [0]})
        for path in ["b", "ab", "ba", "2a", "a2", "a1", "12a"]:
            self.assertEqual(store.answer(path), [])
        self.assertEqual(store.answer("1a"), [(0, 1)])
        self.assertEqual(Store("matched", 2, {"a": [(0, 1)]}).answer("aB"), [])

    def test_each_pair_once_and_sorted(self):
        full = [(x, y) for x in range(12) for y in range(12)]
        store = Store("any", 12, {"a": list(reversed(full))})
        self.assertEqual(store.answer("aaa"), full)
        store = Store("any", 4, {"a": [(0, 1), (0, 2)], "b": [(2, 3), (1, 3)]})
        self.assertEqual(store.answer("ab"), [(0, 3)])
        self.assertIs(type(store.answer("ab")), list)
        self.assertIs(type(store.answer("ab")[0]), tuple)

    def test_as_all_rows_of_things_tell(self):
        dice = random.Random(5)
        for _ in range(40):
            store = some_store(dice, "any", dice.randrange(1, 5))
            for path in ["a", "ab", "1a", "a1", "1ab", "a12b", "b2a1b", "2b1a2", "aba12", "12a", "c", "3a"]:
                self.assertEqual(store.answer(path), ways(store, path))
            for manner in ("matched", "turned"):
                store = some_store(dice, manner, dice.randrange(1, 5))
                for path in ["a", "A", "ab", "aB", "Ab", "aAb", "aBA", "BAb", "cA", "C"]:
                    self.assertEqual(store.answer(path), ways(store, path))
                    turned = [(y, x) for x, y in store.answer(path)]
                    self.assertEqual(store.answer(back(path)), sorted(turned))

    def test_the_document_s_example(self):
        store = Store("any", 6, {"a": [(x, x + 1) for x in range(5)]})
        self.assertEqual(store.answer("aaa"), [(0, 3), (1, 4), (2, 5)])
        self.assertEqual(store.answer("aaaa"), [(0, 4), (1, 5)])
        self.assertEqual(store.answer("aaaaa"), [(0, 5)])

    def test_wrong_paths(self):
        wrong = ["", "1", "a21", "a11", None, True, 3, ["a"], ("a", "b"), {}, "\u00e4", "a1B"]
        for manner, more in [("any", ["A", "aB"]), ("matched", ["1a", "a0"]), ("turned", ["1a", "a0"])]:
            store = Store(manner, 2, {})
            for path in wrong + more:
                self.assertIs(raised(BadPath, store.answer, path).path, path)

    def test_at_the_limits(self):
        begun = time.monotonic()
        full = [(x, y) for x in range(200) for y in range(200)]
        store = Store("any", 200, {"a": full, "b": full}, {k: list(range(200)) for k in "0123"})
        self.assertEqual(store.answer("0ab1aba2bab3"), full)
        self.assertEqual(store.answer("0123abababab"), full)
        round_about = [(x, (x + 1) % 5000) for x in range(5000)]
        store = Store("turned", 5000, {"a": round_about})
        self.assertEqual(store.answer("aaaaaabB")[-1], (4999, 5))
        # Far above what it takes, far below what trying all rows would.
        self.assertLess(time.monotonic() - begun, 60)


class Texts(unittest.TestCase):
    def test_line_by_line(self):
        store = Store("any", 12, {"z": [(11, 0), (2, 10), (2, 9)], "a": [(0, 0)], "c": []}, {"9": [10, 9, 2], "0": [0]})
        self.assertEqual(store.text(), "store any 12\nlink a 0-0\nlink z 2-9 2-10 11-0\nkind 0 0\nkind 9 2 9 10\n")
        self.assertEqual(Store("matched", 1, {}).text(), "store matched 1\n")
        self.assertEqual(Store("turned", 2, {"a": [(0, 0), (1, 1)], "b": [(1, 0), (0, 1)]}).text(),
                         "store turned 2\nlink b 0-1 1-0\n")

    def test_there_and_back(self):
        dice = random.Random(7)
        for manner in MANNERS:
            for many in [1, 2, 3, 5, 13]:
                for _ in range(10):
                    store = some_store(dice, manner, many)
                    again = Store.of_text(store.text())
                    self.assertEqual(again, store)
                    self.assertEqual(again.text(), store.text())

    def test_what_can_stand(self):
        self.assertEqual(Store.of_text("store turned 2\nlink a 0-0 1-1\n"), Store("turned", 2, {}))
        self.assertEqual(Store.of_text("store any 2\nkind 0 1\n"), Store("any", 2, {}, {"0": [1]}))
        self.assertEqual(Store.of_text("store matched 10\nlink y 0-9 9-0\n"), Store("matched", 10, {"y": [(9, 0), (0, 9)]}))

    def test_first_lines(self):
        for line in ["", " ", "store", "store any", "store any ", "store any 1 ", " store any 1", "store  any 1",
                     "store some 1", "store Any 1", "Store any 1", "store any x", "store any -1", "store any +1",
                     "store any 01", "store any 00", "store any 1.0", "store any 1 2", "store any 1\t", "store\tany 1",
                     "store any \u0661", "store any \u00b2", "store any 1_0", "link a 0-0", "kind 1 0", "any 1",
                     "store any 1\r", "store 1 any", "stores any 1"]:
            self.assertEqual(raised(BadText, Store.of_text, line + "\n").line, 1, line)
            self.assertEqual(raised(BadText, Store.of_text, line + "\nlink a 0-0\n").line, 1, line)
        self.assertEqual(raised(BadText, Store.of_text, "").line, 1)
        self.assertEqual(raised(BadText, Store.of_text, "store any 1").line, 1)

    def test_further_lines(self):
        for line in ["", " ", "store any 3", "link", "link ", "link d", "link d ", "link d 0-1 ", " link d 0-1",
                     "link  d 0-1", "link d  0-1", "link d 0-1  1-2", "link D 0-1", "link de 0-1", "link 1 0-1",
                     "link \u00e4 0-1", "link  0-1", "link d 0", "link d 0-", "link d -1", "link d 0-1-2", "link d 0--1",
                     "link d 00-1", "link d 0-01", "link d 0-x", "link d 0:1", "link d 0-1,1-2", "link d 0-1\t",
                     "link d 0-\u0661", "link d 0-+1", "link d 1-0 0-1", "link d 0-1 0-1", "link d 0-2 0-1",
                     "link d 2-0 10-0 9-0", "link c 0-1", "link b 0-1", "link a 0-1", "Link d 0-1", "links d 0-1",
                     "kind", "kind 1", "kind 1 ", "kind a 0", "kind 12 0", "kind  0", "kind 1 0-1", "kind 1 x",
                     "kind 1 00", "kind 1 01", "kind 1 -1", "kind 1 0 0", "kind 1 1 0", "kind 1 0 ", "kind 1  0",
                     "kind 1 10 9", "kind \u0661 0", "kind 1 0\r", "what 1 0", "link d 0-1\rlink e 0-1", "d 0-1"]:
            for behind in ["", "link e 0-1\n", "rubbish\n", "rubbish"]:
                text = "store any 3\nlink c 0-1\n" + line + "\n" + behind
                self.assertEqual(raised(BadText, Store.of_text, text).line, 3, repr(line))

    def test_behind_a_kind_line(self):
        begun = "store any 3\nlink c 0-1\nkind 4 0\n"
        for line in ["link d 0-1", "link a 0-1", "store any 3", "kind 4 0", "kind 3 0", "kind 0 1", ""]:
            self.assertEqual(raised(BadText, Store.of_text, begun + line + "\n").line, 4, line)
        self.assertEqual(Store.of_text(begun + "kind 5 0\n").kinds(), {"4": [0], "5": [0]})

    def test_last_line(self):
        for text, line in [("store any 3\nlink c 0-1", 2), ("store any 3\nlink c 0-1\nkind 1 0", 3),
                           ("store any 3\n ", 2), ("store any 3\nrubbish", 2), ("store any 3\n\n", 2),
                           ("store any 3\nlink c 0-1\n\n", 3), ("\n", 1), ("\nstore any 3\n", 1)]:
            self.assertEqual(raised(BadText, Store.of_text, text).line, line, repr(text))

    def test_then_the_errors_of_store(self):
        self.assertEqual(raised(BadMany, Store.of_text, "store any 0\nlink a 0-1\n").many, 0)
        self.assertEqual(raised(BadLink, Store.of_text, "store any 1\nlink a 0-0\nlink b 0-1\n").letter, "b")
        self.assertEqual(raised(BadLink, Store.of_text, "store matched 3\nlink a 0-1 0-2\nkind 1 7\n").letter, "a")
        self.assertEqual(raised(BadLink, Store.of_text, "store turned 3\nlink a 0-1 1-0\n").letter, "a")
        self.assertEqual(raised(BadKind, Store.of_text, "store any 3\nkind 0 1\nkind 1 3\n").kind, "1")
        self.assertEqual(raised(BadKind, Store.of_text, "store matched 3\nkind 2 0\nkind 3 0\n").kind, "2")
        self.assertEqual(raised(BadText, Store.of_text, "store any 0\nlink a 0-9\nx\n").line, 3)

    def test_long_numbers(self):
        many = "9" * 3900
        self.assertEqual(Store.of_text("store any " + many + "\n").text(), "store any " + many + "\n")
        self.assertEqual(raised(BadLink, Store.of_text, "store any 3\nlink a 0-" + many + "\n").letter, "a")


class NothingModified(unittest.TestCase):
    def test_what_was_passed(self):
        links = {"b": [[2, 1], [0, 1]], "a": [(1, 1)], "c": []}
        kinds = {"2": [2, 0], "1": []}
        told = copy.deepcopy((links, kinds))
        store = Store("any", 3, links, kinds)
        store.answer("2ab")
        store.text()
        self.assertEqual((links, kinds), told)
        self.assertEqual(list(links), ["b", "a", "c"])
        wrong = {"a": [[0, 1], [0, 1]]}
        raised(BadLink, Store, "any", 3, wrong)
        self.assertEqual(wrong, {"a": [[0, 1], [0, 1]]})

    def test_later_changes(self):
        pair, pairs, things = [0, 1], [], [0]
        pairs.append(pair)
        links, kinds = {"a": pairs}, {"1": things}
        store = Store("any", 3, links, kinds)
        pair[1] = 2
        pairs.append((1, 1))
        things.append(1)
        links["b"] = [(0, 0)]
        kinds["2"] = [0]
        self.assertEqual(store.links(), {"a": [(0, 1)]})
        self.assertEqual(store.kinds(), {"1": [0]})
        self.assertEqual(store.answer("1a"), [(0, 1)])

    def test_what_is_returned(self):
        for store in [Store("any", 3, {"a": [(0, 1)], "b": [(1, 2)]}, {"1": [0]}),
                      Store.of_text("store any 3\nlink a 0-1\nlink b 1-2\nkind 1 0\n")]:
            links, kinds, answer = store.links(), store.kinds(), store.answer("a")
            links["a"].append((2, 2))
            del links["b"]
            kinds["1"].append(2)
            kinds["2"] = [1]
            answer.append((9, 9))
            self.assertEqual(store.links(), {"a": [(0, 1)], "b": [(1, 2)]})
            self.assertEqual(store.kinds(), {"1": [0]})
            self.assertEqual(store.answer("a"), [(0, 1)])
            self.assertEqual(store.answer("1ab"), [(0, 2)])


if __name__ == "__main__":
    unittest.main()
