"""Points [44] to [46], and [3] to [5] for them."""

import itertools
import random
import time
import unittest

from helping import NO_LISTS, NO_PATHS, raised, some_path, words_of
from toldpaths.errors import BadFact, BadManner, BadPath, BadThing, HasStore, NoStore
from toldpaths.opened import Opened
from toldpaths.paths import back, reduced
from toldpaths.stores import Store

MANNERS = ("matched", "turned")

NO_THINGS = [True, False, None, -1, -10 ** 20, "0", "", [0], (), {}, 1.0]

# Facts that no store has, with things as they stand.
CLASHES = [
    [("a", 0, 1), ("a", 0, 2)],
    [("a", 1, 0), ("a", 2, 0)],
    [("aA", 0, 1)],
    [("ab", 0, 1), ("a", 0, 2), ("b", 2, 3)],
    [("a", 0, 0), ("aa", 1, 0)],
    [("aa", 0, 0), ("aaa", 0, 0), ("a", 0, 1)],
    [("aaa", 0, 0), ("aaaa", 0, 7), ("A", 1, 0)],
    [("abA", 3, 4), ("B", 5, 6), ("a", 3, 6), ("a", 4, 9)],
    [("Ba", 0, 1), ("b", 2, 0), ("a", 2, 3)],
    [("ab", 0, 1), ("Cb", 2, 1), ("c", 5, 2), ("A", 5, 0), ("a", 0, 1)],
]

# Facts that some store has.
POSSIBLE = [
    [],
    [("a", 0, 1), ("a", 1, 2)],
    [("a", 0, 0), ("a", 1, 1), ("b", 0, 1)],
    [("ab", 0, 1), ("Ba", 1, 2)],
    [("aA", 0, 0), ("aabB", 10 ** 20, 10 ** 20)],
    [("aa", 0, 0), ("a", 0, 1)],
    [("aaa", 0, 0), ("aaa", 1, 1), ("a", 0, 1)],
    [("aaa", 0, 0), ("aaaa", 0, 7)],
    [("a", 5, 6), ("a", 5, 6)],
    [("abab", 0, 1), ("ab", 0, 2), ("ab", 2, 1), ("a", 2, 3)],
]


def is_clash_by_words(facts, thing):
    """Tell by the words of [45] whether a pair is a clash; pairs of the plan are right ones."""
    x, plan = thing
    at, gone = x, ""
    for index, way in plan:
        path, one, other = facts[index]
        if way == "back":
            path, one, other = back(path), other, one
        if at != one:
            return False
        at, gone = other, gone + path
    return at != x and reduced(gone) == ""


def all_stores(manner, many):
    """Return all stores with so many things and the letters a and b."""
    things = range(many)
    links = []
    for chosen in range(many + 1):
        if manner == "matched" or chosen == many:
            links += [list(zip(firsts, seconds)) for firsts in itertools.combinations(things, chosen)
                      for seconds in itertools.permutations(things, chosen)]
    return [Store(manner, many, {"a": a, "b": b}) for a in links for b in links]


def some_facts(dice, most, things):
    facts = []
    for _ in range(dice.randrange(most + 1)):
        path = some_path(dice, "turned", dice.choice([1, 2, 4]))
        facts.append((path, dice.randrange(things), dice.randrange(things)))
    return facts


class Making(unittest.TestCase):
    def test_facts_and_things(self):
        for manner in MANNERS:
            opened = Opened(manner, ([("ab", 7, 2)] + [["A", 3, 7]]))
            self.assertEqual(opened.facts(), [("ab", 7, 2), ("A", 3, 7)])
            self.assertEqual({type(fact) for fact in opened.facts()}, {tuple})
            self.assertEqual(opened.things(), [2, 3, 7])
            self.assertEqual((Opened(manner, ()).facts(), Opened(manner, []).things()), ([], []))
            self.assertEqual(Opened(facts=[("a", 0, 0)] * 8, manner=manner).facts(), [("a", 0, 0)] * 8)

    def test_copies(self):
        fact, facts = ["a", 0, 1], []
        facts.append(fact)
        opened = Opened("matched", facts)
        fact[2] = 5
        facts.append(("b", 0, 0))
        self.assertEqual(opened.facts(), [("a", 0, 1)])
        opened.facts().append(3)
        opened.things().append(3)
        opened.sure("a").append(3)
        store, table = opened.freshest()
        table.clear()
        store.links().clear()
        self.assertEqual((opened.facts(), opened.things()), ([("a", 0, 1)], [0, 1]))
        self.assertEqual((opened.sure("a"), list(opened.freshest()[1])), ([(0, 1)], [0, 1]))
        self.assertEqual((facts, fact), ([["a", 0, 5], ("b", 0, 0)], ["a", 0, 5]))
        clashing = Opened("matched", [("aA", 0, 1)])
        clashing.clash()[1].append(3)
        self.assertIs(clashing.is_clash(clashing.clash()), True)

    def test_errors(self):
        for manner in ["any", "", "Turned", None, True, 0, ["turned"], ("turned",), {"turned": 1}, b"turned"]:
            self.assertIs(raised(BadManner, Opened, manner, 5).manner, manner)
        for manner in MANNERS:
            for facts in NO_LISTS + ["ab", Store("any", 1, {})]:
                self.assertEqual(raised(BadFact, Opened, manner, facts).index, 0)
            for path in NO_PATHS + ["1a", "a0"]:
                self.assertEqual(raised(BadFact, Opened, manner, [("a", 0, 1), (path, 0, 1), None]).index, 1)
            for thing in NO_THINGS:
                self.assertEqual(raised(BadFact, Opened, manner, [("a", 0, thing), ("b", 0, 1)]).index, 0)
                self.assertEqual(raised(BadFact, Opened, manner, [("b", 0, 1)] * 2 + [("a", thing, 0), 5]).index, 2)
            for fact in NO_LISTS + ["a01", (), ("a", 0), ("a", 0, 1, 1), [0, "a", 1]]:
                self.assertEqual(raised(BadFact, Opened, manner, ([("a", 0, 1)] * 3 + [fact, fact])).index, 3)
            self.assertEqual(raised(BadFact, Opened, manner, [("a", 0, 1)] * 9).index, 8)
            self.assertEqual(raised(BadFact, Opened, manner, [("a", 0, 1)] * 8 + [None]).index, 8)
            self.assertEqual(raised(BadFact, Opened, manner, [("a", 0, 1)] * 7 + [None] * 2).index, 7)


class Clashes(unittest.TestCase):
    def test_by_hand(self):
        for manner in MANNERS:
            for facts in CLASHES:
                opened = Opened(manner, facts)
                self.assertIs(opened.is_possible(), False, facts)
                found = opened.clash()
                self.assertEqual((type(found), type(found[1]), type(found[1][0])), (tuple, list, tuple))
                self.assertIs(is_clash_by_words(facts, found), True, (facts, found))
                self.assertIs(opened.is_clash(found), True)
                self.assertEqual(found, Opened(manner, tuple(map(list, facts))).clash())
                raised(NoStore, opened.sure, "a")
                raised(NoStore, opened.freshest)
                self.assertIs(opened.can_be("b", 0, 99), False)
            for facts in POSSIBLE:
                opened = Opened(manner, facts)
                self.assertIs(opened.is_possible(), True, facts)
                raised(HasStore, opened.clash)

    def test_the_plan_by_hand(self):
        opened = Opened("matched", [("ab", 0, 1), ("a", 0, 2), ("b", 2, 3)])
        right = [(0, "back"), (1, "on"), (2, "on")]
        self.assertIs(opened.is_clash((1, right)), True)
        self.assertIs(opened.is_clash([1, [list(pair) for pair in right]]), True)
        self.assertIs(opened.is_clash((3, [(2, "back"), (1, "back"), (0, "on")])), True)
        for wrong in [(0, right), (3, right), (1, right[::-1]), (1, right[:2]), (1, right[1:]), (1, []), (1, [right[0]]),
                      (1, right + [(2, "back")]), (1, right + [(2, "back"), (1, "back"), (0, "on")]),
                      (1, [(0, "back"), (2, "on"), (1, "on")]), (1, [(0, "on"), (1, "on"), (2, "on")]),
                      (2, [(2, "on")]), (0, [(0, "on")]), (99, right), (-1, right), (True, right),
                      (1, right, 1), (1,), (right, 1), (1, [(0, "back"), (True, "on"), (2, "on")]),
                      (1, [(0, "Back"), (1, "on"), (2, "on")]), (1, [(0, "back"), (1, "on"), (3, "on")]),
                      (1, [(0, "back"), (1, "on"), (-1, "on")]), (1, [(0, "back", 1), (1, "on"), (2, "on")]),
                      (1.0, right), ("1", right), (1, None), (1, "ab"), (1, {0: "back"})]:
            self.assertIs(opened.is_clash(wrong), False, wrong)
        for thing in NO_LISTS + ["", "ab", [], (), opened, Store("any", 1, {})]:
            self.assertIs(opened.is_clash(thing), False)
        self.assertIs(opened.is_clash(thing=(1, right)), True)
        # Longer ones are right, too, if they reduce to nothing.
        self.assertIs(opened.is_clash((1, [(0, "back"), (0, "on")] + right)), True)

    def test_no_clash_where_there_is_a_store(self):
        opened = Opened("turned", [("a", 0, 1), ("a", 1, 2)])
        for thing in [(0, [(0, "on")]), (0, []), (0, [(0, "on"), (1, "on")]), (1, [(0, "back"), (0, "on")])]:
            self.assertIs(opened.is_clash(thing), False)

    def test_at_random(self):
        dice = random.Random(81)
        many = {True: 0, False: 0}
        for _ in range(2000):
            facts = some_facts(dice, 7, dice.choice([3, 5, 9]))
            opened = Opened(dice.choice(MANNERS), facts)
            many[opened.is_possible()] += 1
            if opened.is_possible():
                raised(HasStore, opened.clash)
                store, table = opened.freshest()
                self.check_store(opened, facts, store, table)
                continue
            x, plan = opened.clash()
            self.assertIs(is_clash_by_words(facts, (x, plan)), True, facts)
            self.assertIs(opened.is_clash((x, plan)), True)
            at = dice.randrange(len(plan))
            for more in [plan[:at] + plan[at + 1:], plan[:at] + plan[at:at + 1] + plan[at:],
                         plan[:at] + [dice.choice(plan)] + plan[at + 1:], plan[::-1]]:
                self.assertIs(opened.is_clash((x, more)), is_clash_by_words(facts, (x, more)), (facts, more))
        self.assertGreater(min(many.values()), 200)

    def check_store(self, opened, facts, store, table):
        self.assertEqual(list(table), opened.things())
        self.assertEqual(len(set(table.values())), len(table))
        for path, x, y in facts:
            self.assertIn((table[x], table[y]), store.answer(path))

    def test_short_times(self):
        begun = time.monotonic()
        for facts in ([("a" * 8, 0, 0), ("a" * 7, 0, 0), ("a" * 5, 0, 1)], [("aaaaa", 4, 1), ("aaaaa", 4, 2), ("aaaaaaaaaa", 1, 0)],
                      [("aab", 0, 1), ("ab", 0, 1), ("aaB", 1, 2), ("bab", 2, 2), ("bba", 0, 2), ("A", 1, 0)],
                      [("ab", 0, 1), ("ab", 0, 2), ("aab", 0, 3), ("aab", 1, 3), ("bA", 2, 5), ("bAA", 4, 4), ("bbb", 2, 2)]):
            opened = Opened("turned", facts)
            self.assertIs(opened.is_possible(), False)
            self.assertIs(opened.is_clash(opened.clash()), True)
        self.assertLess(time.monotonic() - begun, 30)


class Sure(unittest.TestCase):
    def test_by_hand(self):
        for manner in MANNERS:
            opened = Opened(manner, [("ab", 0, 1), ("a", 2, 0), ("aa", 2, 5)])
            for path, wanted in [("ab", [(0, 1)]), ("a", [(0, 5), (2, 0)]), ("aa", [(2, 5)]), ("aab", [(2, 1)]),
                                 ("b", [(5, 1)]), ("BA", [(1, 0)]), ("A", [(0, 2), (5, 0)]),
                                 ("aaa", []), ("B", [(1, 5)]), ("c", [])]:
                self.assertEqual(opened.sure(path), wanted, (manner, path))
            # What comes of a from 2 and b from there is nothing that a store must have for "matched".
            self.assertEqual(opened.sure("abB"), [(0, 5)] if manner == "matched" else [(0, 5), (2, 0)])
        facts = [("ab", 0, 1)]
        # What a leads to is unknown, but nothing is said of 1 for "matched".
        self.assertEqual(Opened("matched", facts).sure("aA"), [(0, 0)])
        self.assertEqual(Opened("turned", facts).sure("aA"), [(0, 0), (1, 1)])
        self.assertEqual(Opened("turned", facts).sure("cCab"), [(0, 1)])
        self.assertEqual(Opened("matched", facts).sure("cCab"), [])
        self.assertEqual(Opened("turned", []).sure("aA"), [])
        self.assertEqual(Opened("turned", [("aaa", 4, 4)]).sure(path="aaaAAAaaaaaa"), [(4, 4)])

    def test_can_be_by_hand(self):
        for manner in MANNERS:
            opened = Opened(manner, [("a", 0, 1), ("b", 1, 2)])
            for path, x, y, told in [("a", 0, 1, True), ("a", 0, 2, False), ("a", 1, 1, False), ("a", 2, 2, True),
                                     ("a", 1, 0, True), ("ab", 0, 2, True), ("ab", 0, 0, False), ("ab", 2, 2, False),
                                     ("ab", 1, 1, True), ("c", 0, 0, True), ("aA", 0, 1, False), ("aA", 5, 6, False),
                                     ("aA", 5, 5, True), ("a", 9, 1, False), ("a", 9, 8, True), ("a", 0, 77, False),
                                     ("a", 9, 9, True), ("B", 2, 1, True), ("B", 2, 9, False), ("ab", 9, 2, False)]:
                self.assertIs(opened.can_be(path, x, y), told, (manner, path, x, y))
            self.assertIs(opened.can_be(y=10 ** 30, x=5, path="c"), True)

    def test_against_all_stores_of_few_things(self):
        dice = random.Random(82)
        paths = [path for path in words_of("abAB", 2) if path != ""] + ["aab", "abA", "aBa", "aaA", "bAA"]
        for manner, many in (("matched", 2), ("turned", 2), ("turned", 3)):
            stores = all_stores(manner, many)
            answers = [{path: set(store.answer(path)) for path in paths} for store in stores]
            for _ in range(60):
                facts = [(dice.choice(paths), dice.randrange(3), dice.randrange(3)) for _ in range(dice.randrange(4))]
                opened = Opened(manner, facts)
                things = sorted({x for fact in facts for x in fact[1:]})
                seen = []
                for told in answers:
                    for names in itertools.permutations(range(many), len(things)):
                        table = dict(zip(things, names))
                        if all((table[x], table[y]) in told[path] for path, x, y in facts):
                            seen.append((told, table))
                if seen:
                    self.assertIs(opened.is_possible(), True, facts)
                if not opened.is_possible():
                    self.assertEqual(seen, [])
                    continue
                for path in paths:
                    sure = opened.sure(path)
                    for x, y in itertools.product(things, repeat=2):
                        joined = [(table[x], table[y]) in told[path] for told, table in seen]
                        if (x, y) in sure:
                            self.assertTrue(all(joined))
                        if any(joined):
                            self.assertIs(opened.can_be(path, x, y), True)
                        if joined and not all(joined):
                            self.assertNotIn((x, y), sure)

    def test_each_answer_is_shown_by_a_store(self):
        dice = random.Random(83)
        many = {True: 0, False: 0}
        for _ in range(600):
            manner = dice.choice(MANNERS)
            facts = some_facts(dice, 5, 4)
            opened = Opened(manner, facts)
            path = some_path(dice, "turned", 4)
            if not opened.is_possible():
                self.assertIs(opened.can_be(path, 0, 0), False)
                continue
            sure = opened.sure(path)
            for x, y in itertools.product(opened.things() + [50, 51], repeat=2):
                told = opened.can_be(path, x, y)
                many[told] += 1
                more = Opened(manner, facts + [(path, x, y)])
                self.assertIs(more.is_possible(), told)
                if told:
                    store, table = more.freshest()
                    for other, one, two in facts + [(path, x, y)]:
                        self.assertIn((table[one], table[two]), store.answer(other))
                else:
                    self.assertIs(is_clash_by_words(facts + [(path, x, y)], more.clash()), True)
                if x in opened.things() and y in opened.things() and (x, y) not in sure:
                    self.check_not_sure(opened, manner, facts, path, x, y)
            self.assertLessEqual(set(sure), {(x, y) for x in opened.things() for y in opened.things()})
            self.assertEqual(sure, sorted(sure))
            for other, x, y in facts:
                self.assertIn((x, y), opened.sure(other))
        self.assertGreater(min(many.values()), 300)

    def check_not_sure(self, opened, manner, facts, path, x, y):
        """Find a store in which the path does not join x with y."""
        if manner == "matched" or x in [one for one, _ in opened.sure(path)]:
            store, table = opened.freshest()
        else:
            store, table = Opened(manner, facts + [(path, x, 99)]).freshest()
        self.assertNotIn((table[x], table[y]), store.answer(path))
        for other, one, two in facts:
            self.assertIn((table[one], table[two]), store.answer(other))

    def test_sure_pairs_are_in_each_store(self):
        dice = random.Random(84)
        for _ in range(300):
            manner = dice.choice(MANNERS)
            facts = some_facts(dice, 5, 5)
            opened = Opened(manner, facts)
            if not opened.is_possible():
                continue
            for _ in range(3):
                # Facts more that are possible: what is sure stays sure, and holds in their store.
                more = facts + some_facts(dice, 2, 5)
                if Opened(manner, more).is_possible():
                    store, table = Opened(manner, more).freshest()
                    path = some_path(dice, "turned", 5)
                    for x, y in opened.sure(path):
                        self.assertIn((table[x], table[y]), store.answer(path))
                        self.assertIn((x, y), Opened(manner, more).sure(path))
                        self.assertIs(opened.can_be(path, x, y), True)

    def test_errors_in_order(self):
        for manner in MANNERS:
            for facts in ([("a", 0, 1)], [("a", 0, 1), ("a", 0, 2)]):
                opened = Opened(manner, facts)
                for path in NO_PATHS + ["1a", "a0"]:
                    self.assertIs(raised(BadPath, opened.sure, path).path, path)
                    self.assertIs(raised(BadPath, opened.can_be, path, None, None).path, path)
                for thing in NO_THINGS:
                    self.assertIs(raised(BadThing, opened.can_be, "a", thing, "x").thing, thing)
                    self.assertIs(raised(BadThing, opened.can_be, "a", 3, thing).thing, thing)
            raised(NoStore, Opened(manner, [("aA", 0, 1)]).sure, "a")
            raised(NoStore, Opened(manner, [("aA", 0, 1)]).freshest)


class Freshest(unittest.TestCase):
    def test_by_hand(self):
        store, table = Opened("matched", [("a", 3, 5), ("b", 5, 3)]).freshest()
        self.assertEqual(list(table), [3, 5])
        self.assertEqual(store.answer("a"), [(table[3], table[5])])
        self.assertEqual(store.answer("b"), [(table[5], table[3])])
        for manner in MANNERS:
            store, table = Opened(manner, []).freshest()
            self.assertEqual((store.manner, table), (manner, {}))
            found = Opened(manner, [("ab", 0, 1)]).freshest()
            self.assertEqual((type(found), type(found[0]), type(found[1]), found[0].manner), (tuple, Store, dict, manner))
            self.assertEqual(found, Opened(manner, ([["ab", 0, 1]])).freshest())

    def test_just_the_sure_pairs_for_matched(self):
        dice = random.Random(85)
        paths = [path for path in words_of("abAB", 3) if path != ""]
        for _ in range(150):
            facts = some_facts(dice, 5, 5)
            opened = Opened("matched", facts)
            if opened.is_possible():
                store, table = opened.freshest()
                for path in paths:
                    wanted = sorted((x, y) for x in table for y in table if (table[x], table[y]) in store.answer(path))
                    self.assertEqual(opened.sure(path), wanted, (facts, path))


if __name__ == "__main__":
    unittest.main()
