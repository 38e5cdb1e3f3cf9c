"""Points [15] and [17], and [3], [4] and [5] for plans; the plans of [30] to [32]."""

import copy
import itertools
import random
import time
import unittest

from helping import MANNERS, NO_LISTS, NO_NUMBERS, NO_PATHS, is_plan_by_words, places_of, raised
from helping import some_book, some_path, some_store
from toldpaths.books import Book
from toldpaths.errors import BadAnswers, BadKind, BadPath, BadPlan
from toldpaths.paths import marks
from toldpaths.plans import carried, is_plan
from toldpaths.stores import Store
from toldpaths.tells import verdict

AAA = Book("any", ["aaa", "aaaa"])
ON_BACK_ON = [(1, "on"), (0, "back"), (1, "on")]


def known_in(answers):
    return sorted({x for answer in answers for pair in answer for x in pair})


def carried_by_words(book, path, plan, answers, kinds=None):
    """Find by the words of [17] what a plan finds."""
    known = known_in(answers)
    sets = [{(x, y) for x, y in answer} for answer in answers]
    if book.manner != "any":
        found = {(x, x) for x in known}
        for index, way in plan:
            step = sets[index] if way == "on" else {(y, x) for x, y in sets[index]}
            found = {(x, y) for x, z in found for u, y in step if z == u}
        return sorted(found)
    kinds = {} if kinds is None else kinds

    def has(x, place):
        return all(x in kinds.get(kind, []) for kind in marks(path)[place])

    places = places_of(book, path, plan)
    found = {(y, y) for y in known if has(y, places[-1])}
    for t in range(len(plan) - 1, -1, -1):
        index, way = plan[t]
        if way == "on":
            found = {(x, y) for x, z in sets[index] for u, y in found if z == u and has(x, places[t])}
        else:
            found = {(z, y) for z in known for y in known if has(z, places[t])
                     and all((u, y) in found for u, v in sets[index] if v == z and has(u, places[t + 1]))}
    return sorted(found)


def changed(dice, plan, many):
    """Return plans that are made of one: pairs exchanged, left out, put in."""
    found = []
    for at in range(len(plan)):
        found.append(plan[:at] + plan[at + 1:])
        found.append(plan[:at] + [(dice.randrange(many), dice.choice(["on", "back"]))] + plan[at + 1:])
        found.append(plan[:at] + [plan[at], plan[at]] + plan[at + 1:])
        index, way = plan[at]
        found.append(plan[:at] + [(index, "back" if way == "on" else "on")] + plan[at + 1:])
        found.append(plan[:at + 1] + [(index, "back" if way == "on" else "on"), (index, way)] + plan[at + 1:])
    return found


class IsPlan(unittest.TestCase):
    def test_the_document_s_examples(self):
        self.assertIs(is_plan(AAA, "aaaaa", ON_BACK_ON), True)
        self.assertIs(is_plan(Book("any", ["ab", "b", "bc"]), "abc", [(0, "on"), (1, "back"), (2, "on")]), True)
        self.assertIs(is_plan(Book("matched", ["ab", "B"]), "abB", [(0, "on"), (1, "on")]), True)
        self.assertIs(is_plan(Book("matched", ["ab", "B"]), "a", [(0, "on"), (1, "on")]), False)
        self.assertIs(is_plan(Book("turned", ["ab", "B"]), "a", [(0, "on"), (1, "on")]), True)

    def test_lists_and_tuples(self):
        for plan in ([[1, "on"], [0, "back"], [1, "on"]], ((1, "on"), (0, "back"), (1, "on")),
                     ([1, "on"], (0, "back"), [1, "on"])):
            self.assertIs(is_plan(AAA, "aaaaa", plan), True)
        self.assertIs(is_plan(thing=ON_BACK_ON, path="aaaaa", book=AAA), True)

    def test_coming_to_the_last_place_earlier(self):
        book = Book("any", ["a"])
        self.assertIs(is_plan(book, "a", [(0, "on"), (0, "back"), (0, "on")]), True)
        self.assertIs(is_plan(book, "a", [(0, "on"), (0, "back")]), False)
        self.assertIs(is_plan(book, "a", [(0, "on"), (0, "on")]), False)
        self.assertIs(is_plan(book, "a", [(0, "back"), (0, "on")]), False)
        self.assertIs(is_plan(book, "aa", [(0, "on"), (0, "on"), (0, "back"), (0, "on")]), True)

    def test_pairs_exchanged_or_left_out(self):
        for plan in ([], ON_BACK_ON[:1], ON_BACK_ON[:2], ON_BACK_ON[1:], ON_BACK_ON[::-1] + [(1, "on")],
                     [(0, "back"), (1, "on"), (1, "on")], [(0, "on"), (0, "back"), (1, "on")],
                     [(0, "on"), (1, "back"), (1, "on")], [(1, "on"), (1, "back"), (1, "on")]):
            self.assertIs(is_plan(AAA, "aaaaa", plan), False)
        self.assertIs(is_plan(AAA, "aaaaa", [(0, "on"), (0, "back"), (1, "on"), (0, "back"), (1, "on")]), True)
        self.assertIs(is_plan(AAA, "aaaaa", [(0, "on")]), False)

    def test_wrong_pairs(self):
        for index in NO_NUMBERS + [2, 100]:
            for way in ("on", "back"):
                self.assertIs(is_plan(AAA, "aaaa", [(index, way)]), False)
                self.assertIs(is_plan(AAA, "aaaa", [(1, "on"), (index, way)]), False)
        for way in ["On", "on ", "", "o", "onback", None, True, 0, 1, ["on"], ("on",), {"on": 1}, b"on"]:
            self.assertIs(is_plan(AAA, "aaaa", [(1, way)]), False)
            for manner in MANNERS:
                self.assertIs(is_plan(Book(manner, ["a"]), "a", [(0, "on"), (0, way), (0, "on")]), False)
                self.assertIs(is_plan(Book(manner, ["a"]), "aa", [(0, "on"), (0, way)]), False)
        for pair in [(1,), (1, "on", 0), [], (), "on", "1on", None, 1, {1: "on"}, {"index": 1, "way": "on"}, "1o"]:
            self.assertIs(is_plan(AAA, "aaaa", [pair]), False)
        self.assertIs(is_plan(AAA, "aaa", [(False, "on")]), False)
        self.assertIs(is_plan(AAA, "aaaa", [(True, "on")]), False)
        self.assertIs(is_plan(AAA, "aaaa", [(1, "on")]), True)

    def test_no_lists(self):
        for manner in MANNERS:
            for thing in NO_LISTS + ["", "on", "a", Book("any", []), Store("any", 1, {}), (0, "on"), [0, "on"]]:
                self.assertIs(is_plan(Book(manner, ["a"]), "a", thing), False)

    def test_the_empty_plan(self):
        for kept in ([], ["a"]):
            for path in ("a", "ab"):
                self.assertIs(is_plan(Book("any", kept), path, []), False)
            for path in ("a", "aA", "aAbB", "abB"):
                self.assertIs(is_plan(Book("matched", kept), path, []), False)
            for path, told in (("a", False), ("aA", True), ("abBA", True), ("aAb", False), ("bBaA", True)):
                self.assertIs(is_plan(Book("turned", kept), path, []), told)
                self.assertIs(is_plan(Book("turned", kept), path, ()), told)

    def test_kinds_at_ends_and_inner_places(self):
        for kept, path, told in [("ab", "ab", True), ("ab", "1ab2", True), ("ab", "12ab3", True), ("1ab", "1ab", True),
                                 ("1ab", "12ab", True), ("1ab", "ab", False), ("1ab", "2ab", False),
                                 ("12ab", "1ab", False), ("ab2", "ab2", True), ("ab2", "ab", False),
                                 ("ab2", "ab12", True), ("ab12", "ab2", False), ("a1b", "a1b", True),
                                 ("a1b", "ab", False), ("ab", "a1b", False), ("a1b", "a12b", False),
                                 ("a12b", "a1b", False), ("a12b", "a12b", True), ("1a2b3", "1a2b3", True),
                                 ("a2b", "01a2b34", True), ("1a", "1a2", True), ("a1", "1a", False)]:
            self.assertIs(is_plan(Book("any", [kept]), path, [(0, "on")]), told, (kept, path))

    def test_kinds_within_a_path(self):
        book = Book("any", ["a1", "2b", "b"])
        for path, plan, told in [("a1b", [(0, "on"), (2, "on")], True), ("a1b", [(0, "on"), (1, "on")], False),
                                 ("a12b", [(0, "on"), (1, "on")], True), ("ab", [(0, "on"), (2, "on")], False)]:
            self.assertIs(is_plan(book, path, plan), told)
        book = Book("any", ["a1b", "1b", "b"])
        self.assertIs(is_plan(book, "a1bb", [(0, "on"), (2, "on")]), True)
        self.assertIs(is_plan(book, "a1bb", [(0, "on"), (1, "on")]), False)
        self.assertIs(is_plan(book, "a1b", [(0, "on"), (1, "back"), (2, "on")]), True)

    def test_matched_trees(self):
        book = Book("matched", ["a", "b", "ab", "aA"])
        for path, plan, told in [("ab", [(0, "on"), (1, "on")], True), ("ab", [(2, "on")], True),
                                 ("a", [(2, "on"), (1, "back")], False), ("abB", [(2, "on"), (1, "back")], True),
                                 ("aA", [(3, "on")], True), ("aA", [(3, "back")], True),
                                 ("aA", [(0, "on"), (0, "back")], True), ("Aa", [(3, "on")], False),
                                 ("aAb", [(3, "on"), (1, "on")], True), ("aAb", [(1, "on"), (3, "on")], False),
                                 ("aAb", [(1, "on")], False), ("bBa", [(3, "on"), (1, "on"), (1, "back"), (0, "on")], True),
                                 ("BA", [(2, "back")], True), ("BA", [(1, "back"), (0, "back")], True),
                                 ("a", [(0, "on"), (0, "back"), (3, "on"), (0, "on")], True)]:
            self.assertIs(is_plan(book, path, plan), told, (path, plan))

    def test_turned_products(self):
        book = Book("turned", ["aa", "aaa", "bAB"])
        for path, plan, told in [("a", [(1, "on"), (0, "back")], True), ("a", [(0, "back"), (1, "on")], True),
                                 ("A", [(0, "on"), (1, "back")], True), ("a", [(0, "on"), (1, "back")], False),
                                 ("baB", [(2, "back")], True), ("aAbaBbB", [(2, "back")], True),
                                 ("baaB", [(2, "back"), (2, "back")], True), ("aabAB", [(0, "on"), (2, "on")], True),
                                 ("aabAB", [(2, "on"), (0, "on")], False),
                                 ("aA", [(0, "on"), (1, "on"), (0, "back"), (1, "back")], True)]:
            self.assertIs(is_plan(book, path, plan), told, (path, plan))

    def test_by_the_document_s_words(self):
        dice = random.Random(11)
        told = {True: 0, False: 0}
        for _ in range(400):
            manner = dice.choice(MANNERS)
            book = some_book(dice, manner, 4, 3)
            path = some_path(dice, manner, 5)
            found = verdict(book, path)
            plans = [found[1]] + changed(dice, found[1], len(book)) if found[0] == "told" and len(book) else []
            pairs = [(index, way) for index in range(len(book)) for way in ("on", "back")]
            plans += [list(plan) for many in range(3) for plan in itertools.product(pairs, repeat=many)]
            for plan in plans:
                is_one = is_plan(book, path, plan)
                self.assertIs(is_one, is_plan_by_words(book, path, plan), (book.kept(), path, plan))
                told[is_one] += 1
        self.assertGreater(min(told.values()), 300)

    def test_bad_path(self):
        for manner, more in [("any", ["A", "aB"]), ("matched", ["1a"]), ("turned", ["1a"])]:
            for path in NO_PATHS + more:
                self.assertIs(raised(BadPath, is_plan, Book(manner, ["a"]), path, None).path, path)


class Carried(unittest.TestCase):
    def test_the_document_s_example(self):
        answers = [[(0, 3), (1, 4), (2, 5)], [(0, 4), (1, 5)]]
        self.assertEqual(carried(AAA, "aaaaa", ON_BACK_ON, answers), [(0, 5)])
        told = carried(answers=tuple(tuple([list(p) for p in a]) for a in answers), kinds=None, plan=tuple(ON_BACK_ON),
                       path="aaaaa", book=AAA)
        self.assertEqual(told, [(0, 5)])
        self.assertIs(type(told), list)
        self.assertIs(type(told[0]), tuple)

    def test_any_order_and_more_than_once(self):
        answers = [[(2, 5), (0, 3), (2, 5), (1, 4), (0, 3)], [(1, 5), (0, 4), (1, 5)]]
        self.assertEqual(carried(AAA, "aaaaa", ON_BACK_ON, answers), [(0, 5)])
        book = Book("turned", ["a", "b"])
        self.assertEqual(carried(book, "ab", [(0, "on"), (1, "on")], [[(9, 7), (0, 7), (9, 7)], [(7, 10), (7, 2)]]),
                         [(0, 2), (0, 10), (9, 2), (9, 10)])
        self.assertEqual(carried(Book("any", ["1a"]), "1a", [(0, "on")], [[(1, 0), (0, 1)]], {"1": [1, 1]}), [(1, 0)])

    def test_back_without_any_u(self):
        # From no u at all: each known thing is joined with each one behind.
        book = Book("any", ["ab", "b", "bc"])
        plan = [(0, "on"), (1, "back"), (2, "on")]
        self.assertEqual(carried(book, "abc", plan, [[(0, 2)], [], [(5, 6)]]), [(0, 0), (0, 2), (0, 5), (0, 6)])
        self.assertEqual(carried(book, "abc", plan, [[(0, 2)], [(1, 2)], [(1, 3)]]), [(0, 3)])
        self.assertEqual(carried(book, "abc", plan, [[(0, 2)], [(1, 2), (4, 2)], [(1, 3)]]), [])
        self.assertEqual(carried(book, "abc", plan, [[(0, 2)], [(1, 2), (4, 2)], [(1, 3), (4, 3), (4, 8)]]), [(0, 3)])

    def test_kinds_for_back(self):
        # Only the u with the kinds of the place that is gone back to count.
        book = Book("any", ["a1b", "1b", "b", "bc"])
        plan = [(0, "on"), (2, "back"), (3, "on")]
        answers = [[(0, 2)], [], [(1, 2), (4, 2)], [(1, 3)]]
        self.assertEqual(carried(book, "a1bc", plan, answers, {"1": [1]}), [(0, 3)])
        self.assertEqual(carried(book, "a1bc", plan, answers, {"1": [1, 4]}), [])
        self.assertEqual(carried(book, "a1bc", plan, answers, {"1": []}), [(0, x) for x in range(5)])
        self.assertEqual(carried(book, "a1bc", plan, answers), [(0, x) for x in range(5)])

    def test_kinds_at_all_places(self):
        book = Book("any", ["a", "b"])
        plan = [(0, "on"), (1, "on")]
        answers = [[(0, 1), (2, 3)], [(1, 4), (3, 5)]]
        for path, kinds, found in [("ab", None, [(0, 4), (2, 5)]), ("1ab", {"1": [0]}, [(0, 4)]),
                                   ("1ab", {"1": (2, 0, 99)}, [(0, 4), (2, 5)]), ("1ab", {}, []), ("1ab", None, []),
                                   ("a2b", {"2": [3], "1": []}, [(2, 5)]), ("ab3", {"3": [4]}, [(0, 4)]),
                                   ("1a2b3", {"1": [0, 2], "2": [1, 3], "3": [5]}, [(2, 5)]),
                                   ("a12b", {"1": [1], "2": [3]}, []), ("a12b", {"1": [1, 3], "2": [3]}, [(2, 5)])]:
            self.assertEqual(carried(book, path, plan, answers, kinds), found, path)

    def test_known_things_stand_in_any_answer(self):
        book = Book("turned", ["a", "b"])
        self.assertEqual(carried(book, "aA", [], [[(3, 1)], [(1, 7)]]), [(1, 1), (3, 3), (7, 7)])
        self.assertEqual(carried(Book("turned", []), "aA", [], []), [])
        big = 10 ** 30
        self.assertEqual(carried(book, "b", [(1, "on")], [[(0, big)], [(big, 5)]]), [(big, 5)])
        things = [big, 7, 10 ** 6, 0, 99, big + 1, 512, 64, 33]
        self.assertEqual(carried(book, "ab", [(0, "on"), (1, "on")], [[(5, 5)], [(5, x) for x in things]]),
                         [(5, x) for x in sorted(things)])
        self.assertEqual(carried(book, "bB", [], [[(x, 5) for x in things], []]), [(x, x) for x in sorted(things + [5])])

    def test_matched_and_turned_backs(self):
        answers = [[(0, 1), (2, 3)], [(4, 1), (4, 3), (5, 5)]]
        for manner in ("matched", "turned"):
            book = Book(manner, ["a", "b"])
            self.assertEqual(carried(book, "aB", [(0, "on"), (1, "back")], answers), [(0, 4), (2, 4)])
            self.assertEqual(carried(book, "bA", [(1, "on"), (0, "back")], answers), [(4, 0), (4, 2)])
            self.assertEqual(carried(book, "ab", [(0, "on"), (1, "on")], answers), [])

    def test_by_the_document_s_words(self):
        dice = random.Random(12)
        for _ in range(300):
            manner = dice.choice(MANNERS)
            book = some_book(dice, manner, 4, 3)
            path = some_path(dice, manner, 5)
            found = verdict(book, path)
            if found[0] != "told":
                continue
            plans = [found[1]] + [plan for plan in changed(dice, found[1], len(book)) if is_plan(book, path, plan)]
            for plan in plans:
                answers = [[(dice.randrange(5), dice.randrange(5)) for _ in range(dice.randrange(8))] for _ in book]
                kinds = {kind: [x for x in range(6) if dice.random() < 0.5] for kind in "12"}
                for given in (kinds, None):
                    self.assertEqual(carried(book, path, plan, answers, given),
                                     carried_by_words(book, path, plan, answers, given), (book.kept(), path, plan))

    def test_finds_the_answer_in_stores(self):
        dice = random.Random(13)
        tried = 0
        for _ in range(1500):
            manner = dice.choice(MANNERS)
            book = some_book(dice, manner, 4, 3)
            path = some_path(dice, manner, 5)
            found = verdict(book, path)
            if found[0] != "told":
                continue
            store = some_store(dice, manner, dice.randrange(1, 5))
            answers = [store.answer(kept) for kept in book]
            wanted = store.answer(path)
            if found[1] == []:
                wanted = [(x, x) for x in known_in(answers)]
            self.assertEqual(carried(book, path, found[1], answers, store.kinds()), wanted, (book.kept(), path, found))
            tried += 1
        self.assertGreater(tried, 200)


class CarriedWrong(unittest.TestCase):
    def test_path_then_plan(self):
        for path in NO_PATHS + ["A"]:
            self.assertIs(raised(BadPath, carried, AAA, path, 5, 5, 5).path, path)
        for plan in NO_LISTS + [[], "on", [(0, "on")], [(True, "on")], ON_BACK_ON[:2], [[1, "on"]]]:
            self.assertIs(raised(BadPlan, carried, AAA, "aaaaa", plan, 5, 5).plan, plan)

    def test_answers_that_are_no_list(self):
        for answers in NO_LISTS + ["", "ab", Book("any", [])]:
            self.assertEqual(raised(BadAnswers, carried, AAA, "aaaaa", ON_BACK_ON, answers, 5).index, 0)

    def test_answers_that_lack_or_are_too_much(self):
        self.assertEqual(raised(BadAnswers, carried, AAA, "aaaaa", ON_BACK_ON, []).index, 0)
        self.assertEqual(raised(BadAnswers, carried, AAA, "aaaaa", ON_BACK_ON, [[]], 5).index, 1)
        self.assertEqual(raised(BadAnswers, carried, AAA, "aaaaa", ON_BACK_ON, [[], [], []]).index, 2)
        self.assertEqual(raised(BadAnswers, carried, AAA, "aaaaa", ON_BACK_ON, [[], [], [], 7], 5).index, 2)
        self.assertEqual(raised(BadAnswers, carried, Book("turned", []), "aA", [], [[]]).index, 0)

    def test_wrong_answers(self):
        for manner, path, plan in [("any", "a", [(0, "on")]), ("matched", "a", [(0, "on")]), ("turned", "aA", [])]:
            book = Book(manner, ["a", "b"])
            wrong = NO_LISTS + ["", "ab", [0, 1], [(0,)], [(0, 1, 2)], ["01"], [(0, 1), None], [{0: 1}], [(0, 1), ()]]
            wrong += [[(x, 0)] for x in NO_NUMBERS] + [[(1, 2), (0, x)] for x in NO_NUMBERS]
            for answer in wrong:
                self.assertEqual(raised(BadAnswers, carried, book, path, plan, [answer, []], 5).index, 0)
                self.assertEqual(raised(BadAnswers, carried, book, path, plan, ([(0, 1)], answer), 5).index, 1)
                self.assertEqual(raised(BadAnswers, carried, book, path, plan, [answer], 5).index, 0)

    def test_wrong_kinds(self):
        book = Book("any", ["a"])
        for kinds in [True, False, 0, "", "1", [], (), ["1"], ("1",), Store("any", 1, {})]:
            self.assertIs(raised(BadKind, carried, book, "a", [(0, "on")], [[]], kinds).kind, kinds)
        for key in ["a", "", "12", 1, None, True, (1,), b"1", "\u0661"]:
            found = raised(BadKind, carried, book, "a", [(0, "on")], [[]], {"1": [0], key: [0], "x": 5})
            self.assertIs(found.kind, key)
        for things in NO_LISTS + ["", "0"] + [[x] for x in NO_NUMBERS] + [[0, x] for x in NO_NUMBERS]:
            key = "".join(["3"])
            found = raised(BadKind, carried, book, "a", [(0, "on")], [[]], {"9": (0,), key: things, "1": 5})
            self.assertIs(found.kind, key)

    def test_kinds_of_the_other_manners(self):
        for manner in ("matched", "turned"):
            for kinds in [5, "x", [], {"a": 1}, {"1": [-1]}, None, {}]:
                self.assertEqual(carried(Book(manner, ["a"]), "a", [(0, "on")], [[(0, 1)]], kinds), [(0, 1)])


class NothingModified(unittest.TestCase):
    def test_what_was_passed(self):
        plan = [[1, "on"], (0, "back"), [1, "on"]]
        answers = [[[2, 5], [0, 3], [1, 4], [0, 3]], [(1, 5), (0, 4)]]
        kinds = {"1": [3, 1, 1]}
        told = copy.deepcopy((plan, answers, kinds))
        found = carried(AAA, "aaaaa", plan, answers, kinds)
        self.assertTrue(is_plan(AAA, "aaaaa", plan))
        self.assertEqual((plan, answers, kinds), told)
        found.append(5)
        self.assertEqual(carried(AAA, "aaaaa", plan, answers, kinds), [(0, 5)])
        self.assertEqual(AAA, Book("any", ["aaa", "aaaa"]))


class Limits(unittest.TestCase):
    def test_long_plans_and_great_answers(self):
        begun = time.monotonic()
        full = [(x, y) for x in range(200) for y in range(200)]
        plan = ON_BACK_ON + [(1, "back"), (1, "on")] * 10
        self.assertEqual(carried(AAA, "aaaaa", plan, [full, full]), full)
        self.assertIs(is_plan(AAA, "aaaaa", ON_BACK_ON + [(1, "back"), (1, "on")] * 20000), True)
        self.assertIs(is_plan(Book("turned", ["abc"]), "aA", [(0, "on"), (0, "back")] * 20000), True)
        self.assertIs(is_plan(Book("turned", ["abc"]), "aA", [(0, "on")] * 20000), False)
        self.assertIs(is_plan(Book("matched", ["abc"]), "abc", [(0, "on"), (0, "back")] * 20000 + [(0, "on")]), True)
        book = Book("any", ["01a", "a2", "0a", "a3", "a02", "2a", "a", "aa"])
        kinds = {kind: list(range(200)) for kind in "0123"}
        self.assertEqual(carried(book, "01aaa2aa3aaa", [(6, "on")] * 8, [full] * 8, kinds), full)
        # Far above what it takes, far below what trying all rows of things would.
        self.assertLess(time.monotonic() - begun, 60)


if __name__ == "__main__":
    unittest.main()
