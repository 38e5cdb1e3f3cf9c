"""Points [54] to [56], and [3] to [5] for them."""

import itertools
import random
import time
import unittest

from helping import NO_LISTS, raised
from test_mixed import NO_MIXED, NO_TURNED, some_mixed, some_mixed_store
from toldpaths.books import Book
from toldpaths.errors import BadAnswers, BadKept, BadLetter, BadPath, BadPlan
from toldpaths.mixed import MixedStore, form
from toldpaths.mixedbooks import MixedBook
from toldpaths.paths import back, reduced
from toldpaths.plans import carried, is_plan
from toldpaths.stores import Store
from toldpaths.tells import is_told, verdict

# Turned letters, kept paths, paths that they tell, and paths that they do not tell.
TOLD = [
    ("g", ["abg", "bg", "bc"], ["abc", "abg", "bgGc", "abgbc", "abgbg"], ["ab", "c", "a", "ac", "b", "gabc", "abbg", "abbc"]),
    ("g", ["ag", "Gb"], ["ab", "agGb", "aggGGb"], ["a", "b", "agb", "ba"]),
    ("g", ["agb"], ["agb", "agGgb", "agbGgagb"], ["ab", "a", "b", "aggb", "gagb"]),
    ("g", ["ag", "a"], ["ag", "a", "aa", "aGga", "aag", "agGa", "aga"], ["aG", "ga", "agg", "agga"]),
    ("g", ["ga", "Ga"], ["ga", "Ga"], ["a", "gga", "aa", "aga"]),
    # gaG: on by ga, back by a to where g is ahead, and on by aG from there.
    ("g", ["ga", "a", "aG"], ["aG", "aga", "aa", "gaG", "gaga", "aGgga", "aGa"], ["ag", "agga"]),
    ("", ["ab", "b", "bc"], ["abc", "ab", "bcbc"], ["a", "ac"]),
    ("gh", ["ag", "ah", "Ha", "gHa"], ["aa", "agHa"], ["a", "aG", "aHa"]),
    ("gh", [], [], ["a", "gah"]),
    # Two ways back one behind the other.
    ("g", ["abcg", "cg", "b", "bcd"], ["abcd", "abcg", "bcd", "bb"], ["abc", "ab", "abd", "bc", "ad"]),
    ("g", ["abcg", "cg", "bG", "bcd"], ["abcg", "bcdbG"], ["abcd", "abd", "ab", "ad"]),
]


def red(word):
    return reduced(word) if word != "" else ""


def backward(word):
    return back(word) if word != "" else ""


def bridges_by_words(turned, kept, path):
    """Return all bridges by the words of [55]: triples (index, place, place)."""
    own = form(turned, path)
    letters, words = own[1::2], own[::2]
    found = []
    for index, other in enumerate(kept):
        laid = form(turned, other)
        free, inner = laid[1::2], laid[::2]
        m = len(free)
        for i in range(len(letters) - m + 1):
            if free == letters[i:i + m] and inner[1:-1] == words[i + 1:i + m]:
                found.append((index, (i, red(words[i] + backward(inner[0]))), (i + m, inner[-1])))
    return found


def is_plan_by_words(book, path, plan):
    own = form(book.turned, path)
    at = (0, "")
    for index, way in plan:
        ends = [(one, other) if way == "on" else (other, one)
                for number, one, other in bridges_by_words(book.turned, book.kept(), path) if number == index]
        onward = [other for one, other in ends if one == at]
        if not onward:
            return False
        at = onward[0]
    return plan != [] and at == (len(own) // 2, own[-1])


def cheapest_cost(book, path):
    """Return the least numbers of "back" and then of pairs of a plan, or None."""
    own = form(book.turned, path)
    costs = {(0, ""): (0, 0)}
    bridges = bridges_by_words(book.turned, book.kept(), path)
    for _ in range(2 * len(bridges) + 1):
        for _, i, j in bridges:
            for one, other, backs in ((i, j, 0), (j, i, 1)):
                if one in costs:
                    cost = (costs[one][0] + backs, costs[one][1] + 1)
                    costs[other] = min(costs.get(other, cost), cost)
    return costs.get((len(own) // 2, own[-1]))


def some_mixed_book(dice, turned, free, most_paths, most_steps):
    return MixedBook(turned, list(dict.fromkeys(
        some_mixed(dice, turned, free, most_steps) for _ in range(dice.randrange(most_paths + 1)))))


class Making(unittest.TestCase):
    def test_kept(self):
        book = MixedBook("gh", ("ag", "aHhg", "b"))
        self.assertEqual((book.turned, book.kept()), ("gh", ["ag", "aHhg", "b"]))
        book.kept().append("c")
        self.assertEqual(book.kept(), ["ag", "aHhg", "b"])
        kept = ["a"]
        book = MixedBook(kept=kept, turned="")
        kept.append("b")
        self.assertEqual(book.kept(), ["a"])
        self.assertEqual(MixedBook("g", []).kept(), [])
        self.assertEqual(len(MixedBook("g", ["a" + "g" * many for many in range(8)]).kept()), 8)

    def test_equal(self):
        one = MixedBook("g", ["ag", "b"])
        self.assertTrue(one == MixedBook("g", ("ag", "b")))
        self.assertFalse(one != MixedBook("g", ("ag", "b")))
        for other in [MixedBook("gh", ["ag", "b"]), MixedBook("", ["ag", "b"]), MixedBook("g", ["b", "ag"]), MixedBook("g", ["ag"]),
                      MixedBook("g", ["agGg", "b"]), Book("any", ["ag", "b"]), ["ag", "b"], None, "g"]:
            self.assertFalse(one == other)
            self.assertTrue(one != other)

    def test_errors(self):
        for turned in NO_TURNED:
            self.assertIs(raised(BadLetter, MixedBook, turned, None).letter, turned)
        for kept in NO_LISTS + ["", "ab"]:
            self.assertEqual(raised(BadKept, MixedBook, "gh", kept).index, 0)
        for path in NO_MIXED:
            self.assertEqual(raised(BadKept, MixedBook, "gh", ["a", path, None]).index, 1)
        self.assertEqual(raised(BadKept, MixedBook, "g", ["a", "b", "a", ""]).index, 2)
        self.assertEqual(raised(BadKept, MixedBook, "g", ["a" + "g" * many for many in range(9)]).index, 8)
        self.assertEqual(raised(BadKept, MixedBook, "g", ["a" + "g" * many for many in range(8)] + [None, 3]).index, 8)

    def test_bad_path(self):
        book = MixedBook("gh", ["a"])
        for path in NO_MIXED:
            for call, rest in [(book.is_plan, (None,)), (book.tells, ()), (book.verdict, ()), (book.is_witness, (None, None)),
                               (book.carried, (None, None))]:
                self.assertIs(raised(BadPath, call, path, *rest).path, path)

    def test_by_name(self):
        book = MixedBook("g", ["ag"])
        self.assertIs(book.tells(path="ag"), True)
        self.assertEqual(book.verdict(path="ag"), ("told", [(0, "on")]))
        self.assertIs(book.is_plan(thing=[(0, "on")], path="ag"), True)
        self.assertIs(book.is_witness(other=None, one=None, path="a"), False)
        self.assertEqual(book.carried(answers=[[(0, 1)]], plan=[(0, "on")], path="ag"), [(0, 1)])


class Plans(unittest.TestCase):
    def test_the_document_s_examples(self):
        book = MixedBook("g", ["abg", "bg", "bc"])
        plan = [(0, "on"), (1, "back"), (2, "on")]
        self.assertEqual(book.verdict("abc"), ("told", plan))
        self.assertIs(book.is_plan("abc", plan), True)
        self.assertIs(book.is_plan("abc", tuple([list(pair) for pair in plan])), True)
        self.assertEqual(MixedBook("g", ["ag", "Gb"]).verdict("ab"), ("told", [(0, "on"), (1, "on")]))
        self.assertIs(MixedBook("g", ["agb"]).tells("ab"), False)
        self.assertIs(MixedBook("g", ["ag", "a"]).tells("aG"), False)

    def test_exchanged_left_out_put_in(self):
        book = MixedBook("g", ["abg", "bg", "bc"])
        plan = [(0, "on"), (1, "back"), (2, "on")]
        for wrong in [[], plan[:1], plan[:2], plan[1:], plan[::-1], [plan[0], plan[2]], [plan[1], plan[0], plan[2]],
                      [(0, "on"), (1, "on"), (2, "on")], [(0, "on"), (2, "back"), (2, "on")], plan + [(2, "on")], plan + [(2, "back")]]:
            self.assertIs(book.is_plan("abc", wrong), False, wrong)
        self.assertIs(book.is_plan("abc", plan + [(2, "back"), (2, "on")]), True)
        self.assertIs(book.is_plan("abc", [(0, "on"), (0, "back")] + plan), True)
        for thing in NO_LISTS + ["", "ab", book, [None], [(0,)], [(0, "on", 1)], [(True, "on")], [(3, "on")], [(-1, "on")], [(0, "On")],
                                 [(0, None)], ["on"], [[0, 1]], [("0", "on")], plan[:2] + [(2.0, "on")], Store("any", 1, {})]:
            self.assertIs(book.is_plan("abc", thing), False, thing)
            self.assertIs(raised(BadPlan, book.carried, "abc", thing, None).plan, thing)

    def test_by_the_words(self):
        dice = random.Random(121)
        many = {True: 0, False: 0}
        for _ in range(3000):
            turned, free = dice.choice([("", "ab"), ("g", "a"), ("g", "ab"), ("gh", "a")])
            book = some_mixed_book(dice, turned, free, 4, 4)
            path = some_mixed(dice, turned, free, 5)
            plan = [(dice.randrange(len(book.kept())), dice.choice(["on", "on", "back"]))
                    for _ in range(dice.randrange(4))] if book.kept() else []
            found = book.verdict(path)
            if found[0] == "told" and dice.random() < 0.5:
                plan = found[1]
                at = dice.randrange(len(plan))
                plan = dice.choice([plan, plan, plan[:at] + plan[at + 1:], plan[:at] + plan[at:at + 1] + plan[at:]])
            told = is_plan_by_words(book, path, plan)
            self.assertIs(book.is_plan(path, plan), told, (turned, book.kept(), path, plan))
            many[told] += 1
        self.assertGreater(min(many.values()), 50)


class Tells(unittest.TestCase):
    def test_by_hand(self):
        for turned, kept, told, others in TOLD:
            book = MixedBook(turned, kept)
            for path in told:
                self.assertIs(book.tells(path), True, (kept, path))
                found = book.verdict(path)
                self.assertEqual((type(found), len(found), found[0]), (tuple, 2, "told"))
                self.assertIs(book.is_plan(path, found[1]), True)
            for path in others:
                self.assertIs(book.tells(path), False, (kept, path))
                found = book.verdict(path)
                self.assertEqual((type(found), len(found), found[0]), (tuple, 3, "open"))
                self.assertIs(book.is_witness(path, found[1], found[2]), True, (kept, path))
                self.assertEqual(found, MixedBook(turned, tuple(kept)).verdict(path))

    def test_equal_forms(self):
        book = MixedBook("gh", ["agG", "a", "hHa"])
        self.assertEqual(book.needless(), [0, 1, 2])
        self.assertIs(book.tells("ggGGa"), True)
        self.assertEqual(MixedBook("gh", ["agG"]).needless(), [])
        self.assertEqual(MixedBook("gh", ["a", "agG", "ag", "b", "agb"]).needless(), [0, 1, 4])
        self.assertEqual(MixedBook("gh", ["ag", "Gb", "ab"]).needless(), [2])
        book = MixedBook("g", ["ag", "Gb", "ab"])
        book.needless().append(3)
        self.assertEqual(book.needless(), [2])
        self.assertEqual(MixedBook("g", []).needless(), [])

    def test_needless(self):
        dice = random.Random(122)
        for _ in range(300):
            turned, free = dice.choice([("", "ab"), ("g", "a"), ("gh", "ab")])
            book = some_mixed_book(dice, turned, free, 8, 4)
            kept = book.kept()
            wanted = [at for at in range(len(kept)) if MixedBook(turned, kept[:at] + kept[at + 1:]).tells(kept[at])]
            self.assertEqual(book.needless(), wanted)

    def test_no_small_stores_part_a_told_path(self):
        pairs = [(x, y) for x in range(2) for y in range(2)]
        lists = [list(row) for many in range(5) for row in itertools.combinations(pairs, many)]
        renamings = [[(0, 0), (1, 1)], [(0, 1), (1, 0)]]
        stores = [MixedStore("g", 2, {"a": a, "b": b, "g": g}) for a in lists for b in lists for g in renamings]
        dice = random.Random(123)
        parted = 0
        for _ in range(150):
            book = some_mixed_book(dice, "g", "ab", 3, 3)
            path = some_mixed(dice, "g", "ab", 4)
            seen = {}
            for store in stores:
                key = str([store.answer(kept) for kept in book.kept()])
                seen.setdefault(key, set()).add(str(store.answer(path)))
            is_parted = any(len(row) > 1 for row in seen.values())
            if book.tells(path):
                self.assertFalse(is_parted, (book.kept(), path))
            parted += is_parted
        self.assertGreater(parted, 50)

    def test_verdicts(self):
        dice = random.Random(124)
        many, backs = {"told": 0, "open": 0}, 0
        for _ in range(2500):
            turned, free = dice.choice([("", "a"), ("", "ab"), ("g", "a"), ("g", "ab"), ("gh", "a"), ("gh", "ab")])
            book = some_mixed_book(dice, turned, free, 7, 5)
            path = some_mixed(dice, turned, free, 7)
            cost = cheapest_cost(book, path)
            found = book.verdict(path)
            self.assertIs(book.tells(path), cost is not None)
            self.assertEqual(found[0], "open" if cost is None else "told")
            many[found[0]] += 1
            if cost is not None:
                self.assertEqual((sum(way == "back" for _, way in found[1]), len(found[1])), cost)
                backs += cost[0] > 0
                self.assertIs(is_plan_by_words(book, path, found[1]), True)
                store = some_mixed_store(dice, turned, free, dice.randrange(1, 5))
                answers = [store.answer(kept) for kept in book.kept()]
                self.assertEqual(book.carried(path, found[1], answers), store.answer(path), (book.kept(), path))
            else:
                _, one, other = found
                self.assertEqual((one.turned, other.turned, one.many), (turned, turned, other.many))
                for kept in book.kept():
                    self.assertEqual(one.answer(kept), other.answer(kept), (turned, book.kept(), path))
                self.assertNotEqual(one.answer(path), other.answer(path), (turned, book.kept(), path))
                self.assertIs(book.is_witness(path, one, other), True)
                self.assertIs(book.is_witness(path, other, one), True)
        self.assertGreater(min(many.values()), 200)
        self.assertGreater(backs, 5)

    def test_the_cheapest_plan(self):
        # One pair "back" less is worth any number of pairs more.
        book = MixedBook("g", ["aaaag", "aaag", "aa"])
        found = book.verdict("aaaaag")
        self.assertEqual(found, ("told", [(2, "on"), (1, "on")]))
        book = MixedBook("g", ["ag", "Ga", "aaag", "aag", "aa"])
        self.assertEqual(cheapest_cost(book, "aaaa"), (0, 2))
        self.assertEqual(len(book.verdict("aaaa")[1]), 2)

    def test_without_turned_letters(self):
        dice = random.Random(125)
        for _ in range(500):
            book = some_mixed_book(dice, "", "ab", 6, 5)
            plain = Book("any", book.kept())
            path = some_mixed(dice, "", "ab", 7)
            self.assertIs(book.tells(path), is_told(plain, path))
            found, wanted = book.verdict(path), verdict(plain, path)
            self.assertEqual(found[0], wanted[0])
            if found[0] == "told":
                count = [(len(plan), sum(way == "back" for _, way in plan)) for plan in (found[1], wanted[1])]
                self.assertEqual(count[0], count[1])
                self.assertIs(is_plan(plain, path, found[1]), True)
                self.assertIs(book.is_plan(path, wanted[1]), True)
                answers = [[(x, y) for x in range(4) for y in range(4) if dice.random() < 0.4] for _ in plain]
                self.assertEqual(book.carried(path, wanted[1], answers), carried(plain, path, wanted[1], answers))
            else:
                stores = [MixedStore("", store.many, store.links()) for store in wanted[1:]]
                self.assertIs(book.is_witness(path, stores[0], stores[1]), True)


class Witnesses(unittest.TestCase):
    def test_by_hand(self):
        book = MixedBook("g", ["a"])
        one = MixedStore("g", 2, {"a": [(0, 0)]})
        other = MixedStore("g", 2, {"a": [(0, 0)], "g": [(0, 1), (1, 0)]})
        self.assertIs(book.is_witness("ag", one, other), True)
        self.assertIs(book.is_witness("ag", other, one), True)
        self.assertIs(book.is_witness("agg", one, other), False)
        self.assertIs(book.is_witness("a", one, other), False)
        self.assertIs(book.is_witness("ag", one, one), False)
        self.assertIs(MixedBook("g", ["a", "ag"]).is_witness("ga", one, other), False)
        more = {"a": [(0, 0)], "g": [(0, 1), (1, 0), (2, 2)]}
        self.assertIs(book.is_witness("ag", one, MixedStore("g", 3, more)), False)
        self.assertIs(book.is_witness("ag", MixedStore("g", 3, {"a": [(0, 0)]}), MixedStore("g", 3, more)), True)

    def test_no_witnesses(self):
        book = MixedBook("g", ["a"])
        one = MixedStore("g", 2, {"a": [(0, 0)]})
        other = MixedStore("g", 2, {"a": [(0, 0)], "g": [(0, 1), (1, 0)]})
        stores = [MixedStore(turned, 2, {"a": [(0, 0)], "g": [(0, 1), (1, 0)]}) for turned in ("", "gh")]
        plain = [MixedStore(turned, 2, {"a": [(0, 0)]}) for turned in ("", "gh")]
        for wrong, right in zip(stores, plain):
            self.assertIs(book.is_witness("ag", one, wrong), False)
            self.assertIs(book.is_witness("ag", wrong, one), False)
            self.assertIs(book.is_witness("ag", right, wrong), False)
        for thing in NO_LISTS + ["", [], (), book, Store("any", 2, {"a": [(0, 0)]}), one.links()]:
            for left, right in [(thing, other), (one, thing), (thing, thing)]:
                self.assertIs(book.is_witness("ag", left, right), False)

    def test_stores_made_of_told_ones(self):
        # The same with other letters, and a letter more.
        book, path = MixedBook("gh", ["agb", "bH", "Gbh"]), "agbha"
        one, other = book.verdict(path)[1:]
        names = {"a": "x", "b": "a", "g": "c", "h": "b"}
        again = [MixedStore("bc", store.many, {**{names[k]: row for k, row in store.links().items()}, "z": [(0, 0)]})
                 for store in (one, other)]
        self.assertIs(MixedBook("bc", ["xca", "aB", "Cab"]).is_witness("xcabx", again[0], again[1]), True)
        self.assertIs(MixedBook("bc", ["xca", "aB", "z"]).is_witness("xcabx", again[0], again[1]), True)


class Carried(unittest.TestCase):
    def test_by_hand(self):
        book = MixedBook("g", ["abg", "bg", "bc"])
        plan = book.verdict("abc")[1]
        self.assertEqual(book.carried("abc", plan, [[(0, 3)], [(1, 3)], [(1, 4)]]), [(0, 4)])
        self.assertEqual(book.carried("abc", plan, ([[0, 3], [0, 3]], ((1, 3), (2, 3)), [(1, 4), (2, 5)])), [])
        self.assertEqual(book.carried("abc", plan, ([[0, 3]], ((2, 3), (1, 3)), [(2, 4), (1, 5), (2, 5)])), [(0, 5)])
        # Nothing comes to 3 by bg, so that all known things are behind it.
        self.assertEqual(book.carried("abc", plan, [[(0, 3)], [], []]), [(0, 0), (0, 3)])
        self.assertEqual(book.carried("abc", plan, [[], [], []]), [])

    def test_errors(self):
        book = MixedBook("g", ["ag", "Gb"])
        plan = [(0, "on"), (1, "on")]
        self.assertIs(raised(BadPath, book.carried, "g", None, None).path, "g")
        self.assertEqual(raised(BadPlan, book.carried, "ab", plan[:1], None).plan, plan[:1])
        for answers in NO_LISTS + ["ab"]:
            self.assertEqual(raised(BadAnswers, book.carried, "ab", plan, answers).index, 0)
        for item in NO_LISTS + ["ab", [()], [(0,)], [(0, 1, 1)], [(0, -1)], [(-1, 0)], [(True, 0)], [(0, False)], [(0, "1")],
                                [(0, 1), None], ["ab"]]:
            for answers, index in [([[(0, 1)], item], 1), ([item, []], 0), ([item, None], 0), (([], item, []), 1)]:
                self.assertEqual(raised(BadAnswers, book.carried, "ab", plan, answers).index, index)
        for answers, index in [([], 0), ([[]], 1), ([[], [], []], 2)]:
            self.assertEqual(raised(BadAnswers, book.carried, "ab", plan, answers).index, index)

    def test_nothing_is_changed(self):
        book = MixedBook("g", ["ag", "Gb"])
        plan, answers = [[0, "on"], [1, "on"]], [[[0, 1]], ((1, 2),)]
        found = book.carried("ab", plan, answers)
        self.assertEqual((found, plan, answers), ([(0, 2)], [[0, "on"], [1, "on"]], [[[0, 1]], ((1, 2),)]))
        found.append(3)
        self.assertEqual(book.carried("ab", plan, answers), [(0, 2)])
        book.verdict("ab")[1].append(3)
        self.assertEqual(book.verdict("ab"), ("told", [(0, "on"), (1, "on")]))


class Limits(unittest.TestCase):
    def test_short_times(self):
        begun = time.monotonic()
        for turned, kept, path in [
                ("g", ["gaGaggaGGagagg", "agaGaggaGGaGag", "aaagggGaGaGaaa", "gaagaGaggGaGga", "agaga", "gggagagG", "aG", "ga"],
                 "aggaGaGGagaagg"),
                ("gh", ["ghaGHahgaGhahg", "aghaHGaghaHGah", "ahahahahahahah", "hahahahahahaha", "agggggggggggga", "a", "gah"],
                 "aghaHGaghahgGa"),
                ("", ["a" * many for many in (14, 13, 11, 9, 7, 5, 10, 8)], "a" * 14),
                ("", ["a" * 14, "a" * 13], "a" * 12), ("g", ["gagagagagagaga", "agagagagagagag"], "gagagagagagagg")]:
            book = MixedBook(turned, kept)
            found = book.verdict(path)
            book.needless()
            if found[0] == "told":
                answers = [[(x, x + 1) for x in range(200)] for _ in kept]
                book.carried(path, found[1], answers)
            else:
                self.assertIs(book.is_witness(path, found[1], found[2]), True)
        self.assertLess(time.monotonic() - begun, 30)


if __name__ == "__main__":
    unittest.main()
