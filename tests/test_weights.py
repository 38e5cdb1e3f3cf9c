"""Points [35] to [38], and [3] to [5] for them."""

import itertools
import random
import time
import unittest

from helping import NO_LISTS, NO_PATHS, raised, some_book, some_mark, some_path
from toldpaths.bridges import board_of, cheapest
from toldpaths.books import Book
from toldpaths.errors import (BadAnswers, BadBook, BadKind, BadLink, BadMany, BadPath, BadPlan, BadReading, IsTold)
from toldpaths.paths import marks, steps
from toldpaths.plans import is_plan
from toldpaths.stores import Store
from toldpaths.tells import is_told, verdict
from toldpaths.weights import Weights, is_worth_witness, worth_carried, worth_open

READINGS = ("costs", "widths", "ways")

NO_READINGS = ["", "Costs", "sets", "any", None, True, 0, ["costs"], ("costs",), {"costs": 1}, b"costs", 1.5]

NO_BOOKS = NO_LISTS + ["", [], (), ["a"], Store("any", 1, {}), Weights("costs", 1, {}), Book("matched", ["a"]),
                       Book("turned", ["a"])]


def least(reading):
    return 0 if reading == "costs" else 1


def all_ways(weights, path):
    """Return all rows of things that are ways of a path, each with its worths."""
    links, kinds, wanted = weights.links(), weights.kinds(), marks(path)

    def fits(x, mark):
        return all(x in kinds.get(kind, []) for kind in mark)

    rows = [((x,), ()) for x in range(weights.many) if fits(x, wanted[0])]
    for step, mark in zip(steps(path), wanted[1:]):
        rows = [(row + (y,), worths + (worth,)) for row, worths in rows
                for x, y, worth in links.get(step, []) if x == row[-1] and fits(y, mark)]
    return rows


def answer_by_words(weights, path):
    """Return the answer by the words of [36]."""
    found = {}
    for row, worths in all_ways(weights, path):
        product = 1
        for worth in worths:
            product *= worth
        told = {"costs": sum(worths), "widths": min(worths), "ways": product}[weights.reading]
        found.setdefault((row[0], row[-1]), []).append(told)
    of_all = {"costs": min, "widths": max, "ways": sum}[weights.reading]
    return sorted((x, y, of_all(told)) for (x, y), told in found.items())


def some_weights(dice, reading, many, top=None, letters="ab"):
    share = dice.choice([0.2, 0.4, 0.6, 0.9])
    low = least(reading)
    top = dice.choice([low, low + 1, low + 4, low + 30]) if top is None else top
    links = {letter: [(x, y, dice.randint(low, top)) for x in range(many) for y in range(many)
                      if dice.random() < share] for letter in letters}
    return Weights(reading, many, links, {k: [x for x in range(many) if dice.random() < 0.7] for k in "12"})


def some_plan(dice, book, path, many):
    """Make a plan for a told path: some pairs anywhere, and then the cheapest way to the end."""
    board = board_of("any", book.kept(), path)
    place, plan = 0, []
    for _ in range(many):
        onward = [((bridge.index, "on"), bridge.end) for bridge in board.bridges if bridge.start == place]
        onward += [((bridge.index, "back"), bridge.start) for bridge in board.bridges if bridge.end == place]
        pair, place = dice.choice(onward)
        plan.append(pair)
    return plan + cheapest(board.bridges, place, board.goal)


class Making(unittest.TestCase):
    def test_links_and_kinds(self):
        for reading in READINGS:
            weights = Weights(reading, 3, {"b": [(2, 0, 5), (0, 1, 7)], "c": [], "a": ([1, 1, 1],)},
                              {"2": (2, 0), "0": [], "1": [1]})
            self.assertEqual((weights.reading, weights.many), (reading, 3))
            self.assertEqual(list(weights.links().items()), [("a", [(1, 1, 1)]), ("b", [(0, 1, 7), (2, 0, 5)])])
            self.assertEqual(list(weights.kinds().items()), [("1", [1]), ("2", [0, 2])])
            self.assertEqual({type(row) for row in weights.links()["a"]}, {tuple})
            self.assertEqual(Weights(reading, 1, {}).links(), {})
            self.assertEqual(Weights(reading, 1, {"a": ()}, None).kinds(), {})
            self.assertFalse(isinstance(weights, Store))

    def test_copies(self):
        row, pairs, things = [0, 1, 2], [(1, 1, 1)], [0]
        pairs.append(row)
        links, kinds = {"a": pairs}, {"1": things}
        weights = Weights("ways", 2, links, kinds)
        row[2] = 5
        pairs.append((0, 0, 1))
        links["b"] = []
        things.append(1)
        kinds["2"] = [0]
        told = ({"a": [(0, 1, 2), (1, 1, 1)]}, {"1": [0]})
        self.assertEqual((weights.links(), weights.kinds()), told)
        weights.links()["a"].append(3)
        weights.links()["c"] = []
        weights.kinds()["1"].append(3)
        weights.kinds().clear()
        weights.answer("a").clear()
        self.assertEqual((weights.links(), weights.kinds()), told)
        self.assertEqual(weights.answer("1a"), [(0, 1, 2)])
        self.assertEqual((links, kinds), ({"a": [(1, 1, 1), [0, 1, 5], (0, 0, 1)], "b": []}, {"1": [0, 1], "2": [0]}))

    def test_equal(self):
        one = Weights("costs", 2, {"a": [(0, 1, 3), (0, 0, 2)]}, {"1": [0, 1]})
        self.assertTrue(one == Weights("costs", 2, {"b": [], "a": ([0, 0, 2], [0, 1, 3])}, {"2": [], "1": (1, 0)}))
        self.assertFalse(one != Weights("costs", 2, {"a": [(0, 1, 3), (0, 0, 2)]}, {"1": [0, 1]}))
        others = [Weights("widths", 2, {"a": [(0, 1, 3), (0, 0, 2)]}, {"1": [0, 1]}),
                  Weights("costs", 3, {"a": [(0, 1, 3), (0, 0, 2)]}, {"1": [0, 1]}),
                  Weights("costs", 2, {"a": [(0, 1, 4), (0, 0, 2)]}, {"1": [0, 1]}),
                  Weights("costs", 2, {"b": [(0, 1, 3), (0, 0, 2)]}, {"1": [0, 1]}),
                  Weights("costs", 2, {"a": [(0, 1, 3)]}, {"1": [0, 1]}),
                  Weights("costs", 2, {"a": [(0, 1, 3), (0, 0, 2)]}, {"1": [0]}),
                  Weights("costs", 2, {"a": [(0, 1, 3), (0, 0, 2)]}), Store("any", 2, {"a": [(0, 1), (0, 0)]}),
                  None, 2, "costs", one.links(), [one]]
        for other in others:
            self.assertFalse(one == other)
            self.assertTrue(one != other)

    def test_by_name(self):
        self.assertEqual(Weights(kinds={"1": [0]}, links={"a": [(0, 0, 1)]}, many=1, reading="ways"),
                         Weights("ways", 1, {"a": [(0, 0, 1)]}, {"1": [0]}))
        self.assertEqual(Weights("ways", 1, {"a": [(0, 0, 1)]}).answer(path="aa"), [(0, 0, 1)])

    def test_errors(self):
        for reading in NO_READINGS:
            self.assertIs(raised(BadReading, Weights, reading, 0, None, 3).reading, reading)
        for reading in READINGS:
            for many in [0, -1, True, False, None, "1", 1.0, [1]]:
                self.assertIs(raised(BadMany, Weights, reading, many, None, 3).many, many)
            for links in NO_LISTS[:5] + ["a", [("a", [])], ()]:
                self.assertIs(raised(BadLink, Weights, reading, 2, links, 3).letter, links)
            for letter in ["", "A", "ab", "1", 1, None, True, ("a",), b"a"]:
                self.assertIs(raised(BadLink, Weights, reading, 2, {"a": [], letter: [], "B": []}, 3).letter, letter)
            for link in NO_LISTS + ["", "ab", [()], [(0, 1)], [(0, 1, 1, 1)], [(0, 2, 1)], [(2, 0, 1)], [(-1, 0, 1)],
                                    [(True, 0, 1)], [(0, False, 1)], [(0, 1, "1")], [(0, 1, None)], [(0, 1, -1)],
                                    [(0, 1, True)], [(0, 1, 1.0)], [(0, 1, [1])], ["abc"], [5], [(0, 1, 1), (0, 1, 1)],
                                    [(0, 1, 1), [0, 1, 2]], [(1, 1, 1), (0, 1, 1), (0, 1, 3)], [(0, 1, 1), None]]:
                links = {"b": [(0, 1, 1)], "a": link, "c": None}
                self.assertEqual(raised(BadLink, Weights, reading, 2, links, 3).letter, "a", link)
            for kinds in [0, 3, True, "1", [], [("1", [0])]]:
                self.assertIs(raised(BadKind, Weights, reading, 2, {}, kinds).kind, kinds)
            for kind in ["", "a", "12", 1, None, "\u0663"]:
                self.assertIs(raised(BadKind, Weights, reading, 2, {}, {"1": [], kind: [], "x": []}).kind, kind)
            for row in NO_LISTS + ["0", [2], [-1], [True], ["0"], [0, 0], [None], [[0]]]:
                self.assertEqual(raised(BadKind, Weights, reading, 2, {}, {"2": [0], "1": row, "x": []}).kind, "1")

    def test_a_worth_of_nothing(self):
        self.assertEqual(Weights("costs", 1, {"a": [(0, 0, 0)]}).answer("aa"), [(0, 0, 0)])
        for reading in ("widths", "ways"):
            self.assertEqual(raised(BadLink, Weights, reading, 1, {"a": [(0, 0, 0)]}).letter, "a")


class Answers(unittest.TestCase):
    LINKS = {"a": [(0, 1, 2), (0, 2, 5), (1, 3, 9)], "b": [(1, 3, 4), (2, 3, 1), (2, 0, 6)], "c": [(3, 0, 3)]}
    KINDS = {"1": [1, 3], "2": [0, 2, 3]}

    def test_reckoned_by_hand(self):
        for path, wanted in [
                ("a", ([(0, 1, 2), (0, 2, 5), (1, 3, 9)],) * 3),
                ("ab", ([(0, 0, 11), (0, 3, 6)], [(0, 0, 5), (0, 3, 2)], [(0, 0, 30), (0, 3, 13)])),
                ("a1b", ([(0, 3, 6)], [(0, 3, 2)], [(0, 3, 8)])),
                ("a2b", ([(0, 0, 11), (0, 3, 6)], [(0, 0, 5), (0, 3, 1)], [(0, 0, 30), (0, 3, 5)])),
                ("a12b", ([],) * 3), ("a2b1", ([(0, 3, 6)], [(0, 3, 1)], [(0, 3, 5)])),
                ("2ab2", ([(0, 0, 11), (0, 3, 6)], [(0, 0, 5), (0, 3, 2)], [(0, 0, 30), (0, 3, 13)])),
                ("1ab", ([],) * 3), ("a3b", ([],) * 3), ("d", ([],) * 3), ("cd", ([],) * 3),
                ("abc", ([(0, 0, 9)], [(0, 0, 2)], [(0, 0, 39)])), ("abcabc", ([(0, 0, 18)], [(0, 0, 2)], [(0, 0, 1521)])),
                ("aa", ([(0, 3, 11)], [(0, 3, 2)], [(0, 3, 18)]))]:
            for reading, told in zip(READINGS, wanted):
                found = Weights(reading, 4, self.LINKS, self.KINDS).answer(path)
                self.assertEqual(found, told, (reading, path))
                self.assertEqual({type(row) for row in found} - {tuple}, set())

    def test_a_longer_way_costs_less(self):
        links = {"a": [(0, 1, 9), (0, 2, 1)], "b": [(1, 3, 0), (2, 3, 7)]}
        self.assertEqual(Weights("costs", 4, links).answer("ab"), [(0, 3, 8)])
        links = {"a": [(0, 1, 9), (0, 2, 3)], "b": [(1, 3, 2), (2, 3, 7)]}
        self.assertEqual(Weights("widths", 4, links).answer("ab"), [(0, 3, 3)])

    def test_against_all_ways(self):
        dice = random.Random(71)
        for _ in range(700):
            weights = some_weights(dice, dice.choice(READINGS), dice.randrange(1, 5))
            path = some_path(dice, "any", 5)
            self.assertEqual(weights.answer(path), answer_by_words(weights, path), (weights.links(), path))

    def test_the_same_pairs_in_all_readings(self):
        dice = random.Random(72)
        for _ in range(300):
            weights = some_weights(dice, "ways", dice.randrange(1, 7))
            path = some_path(dice, "any", 6)
            pairs = {letter: [(x, y) for x, y, _ in row] for letter, row in weights.links().items()}
            wanted = Store("any", weights.many, pairs, weights.kinds()).answer(path)
            for reading in READINGS:
                other = Weights(reading, weights.many, weights.links(), weights.kinds())
                self.assertEqual([(x, y) for x, y, _ in other.answer(path)], wanted)

    def test_great_worths(self):
        great = 10 ** 40
        links = {"a": [(0, 1, great), (0, 2, great + 1), (1, 0, 3), (2, 0, 1)]}
        self.assertEqual(Weights("costs", 3, links).answer("aa")[0], (0, 0, great + 2))
        self.assertEqual(Weights("widths", 3, links).answer("aa")[0], (0, 0, 3))
        self.assertEqual(Weights("ways", 3, links).answer("aa")[0], (0, 0, 4 * great + 1))
        self.assertEqual(Weights("ways", 3, links).answer("aaaaaaaa")[0], (0, 0, (4 * great + 1) ** 4))

    def test_bad_path(self):
        for path in NO_PATHS + ["A", "aB", "a A"]:
            for reading in READINGS:
                self.assertIs(raised(BadPath, Weights(reading, 1, {}).answer, path).path, path)

    def test_full_stores(self):
        dice = random.Random(73)
        begun = time.monotonic()
        for reading in READINGS:
            links = {letter: [(x, y, dice.randrange(1, 1000)) for x in range(200) for y in range(200)] for letter in "ab"}
            weights = Weights(reading, 200, links)
            found = weights.answer("abababab")
            self.assertEqual(len(found), 40000)
            half = {(x, y): worth for x, y, worth in weights.answer("abab")}
            for x, y in [(0, 0), (3, 199), (100, 7)]:
                both = [(half[(x, z)], half[(z, y)]) for z in range(200)]
                wanted = {"costs": min(map(sum, both)), "widths": max(map(min, both)),
                          "ways": sum(one * other for one, other in both)}[reading]
                self.assertEqual(found[200 * x + y], (x, y, wanted))
        self.assertLess(time.monotonic() - begun, 60)


class WorthCarried(unittest.TestCase):
    def check(self, book, path, plan, weights, dice=None):
        answers = [weights.answer(kept) for kept in book]
        if dice is not None:
            for triples in answers:
                dice.shuffle(triples)
        found = worth_carried(book, path, plan, weights.reading, answers, weights.kinds())
        self.assertEqual(found, weights.answer(path), (book.kept(), path, plan, weights.links(), weights.kinds()))

    def test_by_hand(self):
        book = Book("any", ["ab", "b", "bc"])
        plan = [(0, "on"), (1, "back"), (2, "on")]
        answers = [[(0, 2, 7)], [(1, 2, 3)], [(1, 3, 5)]]
        # a costs 4 from 0 to 1, bc costs 5.
        self.assertEqual(worth_carried(book, "abc", plan, "costs", answers), [(0, 3, 9)])
        # bc is narrower than b, so that c is the narrowest; a times b is 6, and b times c is 15.
        self.assertEqual(worth_carried(book, "abc", plan, "widths", [[(0, 2, 3)], [(1, 2, 3)], [(1, 3, 2)]]), [(0, 3, 2)])
        self.assertEqual(worth_carried(book, "abc", plan, "ways", [[(0, 2, 6)], [(1, 2, 3)], [(1, 3, 15)]]), [(0, 3, 30)])
        found = worth_carried(book, "abc", plan, "costs", [[], [], []])
        self.assertEqual(found, [])
        self.assertEqual(worth_carried(Book("any", ["a"]), "aa", [(0, "on"), (0, "on")], "ways", [[(0, 0, 2)]]), [(0, 0, 4)])

    def test_equal_widths(self):
        book, path = Book("any", ["aaa", "aaaa"]), "aaaaa"
        plan = verdict(book, path)[1]
        for worth in (1, 4):
            links = {"a": [(x, y, worth) for x in range(4) for y in range(4) if (x + y) % 3 != 0]}
            for reading in READINGS:
                self.check(book, path, plan, Weights(reading, 4, links))

    def test_more_than_one_solution(self):
        # All rows of the answers are alike, so that the equations leave much open.
        book, path = Book("any", ["aaa", "aaaa"]), "aaaaa"
        plan = verdict(book, path)[1]
        for many in (2, 5, 12):
            links = {"a": [(x, y, 1 + x % 2) for x in range(many) for y in range(many)]}
            self.check(book, path, plan, Weights("ways", many, links))
        book, path = Book("any", ["ab", "b", "bc"]), "abc"
        links = {"a": [(0, 1, 1), (0, 2, 2)], "b": [(1, 3, 2), (2, 3, 1)], "c": [(3, 4, 7)]}
        self.check(book, path, [(0, "on"), (1, "back"), (2, "on")], Weights("ways", 5, links))

    def test_things_that_nobody_comes_to(self):
        # No b leads to thing 3, to which ab does not lead either, but bc leads on from others.
        book, path = Book("any", ["ab", "b", "bc"]), "abc"
        links = {"a": [(0, 1, 1)], "b": [(1, 2, 2)], "c": [(2, 3, 1), (3, 3, 2), (3, 0, 1)]}
        for reading in READINGS:
            self.check(book, path, [(0, "on"), (1, "back"), (2, "on")], Weights(reading, 4, links))
            self.check(book, path, [(0, "on"), (1, "back"), (2, "on")], Weights(reading, 4, {"b": links["b"]}))

    def test_any_plan_in_any_store(self):
        dice = random.Random(74)
        backs = {}
        for _ in range(2500):
            letters = dice.choice(["a", "ab", "aab"])
            many = dice.randrange(1, 6)
            kept = []
            for _ in range(many):
                path = self.marked(dice, letters, 5)
                if path not in kept:
                    kept.append(path)
            book, path = Book("any", kept), self.marked(dice, letters, 7)
            if not is_told(book, path):
                continue
            for reading in READINGS:
                plan = some_plan(dice, book, path, dice.choice([0, 0, 3, 9]))
                self.assertIs(is_plan(book, path, plan), True)
                self.check(book, path, plan, some_weights(dice, reading, dice.randrange(1, 5)), dice)
                many = sum(way == "back" for _, way in plan)
                backs[min(many, 3)] = backs.get(min(many, 3), 0) + 1
        self.assertGreater(min(backs[many] for many in range(4)), 40)

    @staticmethod
    def marked(dice, letters, most):
        share = dice.choice([0, 0, 0.4])
        path = some_mark(dice, "12") if dice.random() < share else ""
        for _ in range(dice.randrange(1, most + 1)):
            path += dice.choice(letters) + (some_mark(dice, "12") if dice.random() < share else "")
        return path

    def test_two_ways_back_one_behind_the_other(self):
        dice = random.Random(75)
        book, path = Book("any", ["aaa", "aa"]), "aaaaa"
        for plan in ([(0, "on"), (1, "on")], [(0, "on"), (1, "back"), (0, "on"), (1, "back"), (0, "on")]):
            for reading in READINGS:
                for _ in range(20):
                    self.check(book, path, plan, some_weights(dice, reading, 4, letters="a"), dice)
        book, path = Book("any", ["aaaa", "a"]), "aaaaa"
        plan = [(0, "on"), (1, "back"), (1, "back"), (1, "back"), (0, "on")]
        for reading in READINGS:
            for _ in range(20):
                self.check(book, path, plan, some_weights(dice, reading, 4, letters="a"), dice)
        book, path = Book("any", ["abcd", "d", "bc", "bcde"]), "abcde"
        plan = [(0, "on"), (1, "back"), (2, "back"), (3, "on")]
        for reading in READINGS:
            for _ in range(40):
                self.check(book, path, plan, some_weights(dice, reading, 4, letters="abcde"), dice)

    def test_kinds(self):
        book = Book("any", ["a", "b"])
        plan = [(0, "on"), (1, "on")]
        answers = [[(0, 1, 2), (0, 2, 3)], [(1, 3, 5), (2, 3, 7)]]
        for reading, wanted in [("costs", 10), ("widths", 3), ("ways", 21)]:
            self.assertEqual(worth_carried(book, "a1b", plan, reading, answers, {"1": [2, 9, 2]}), [(0, 3, wanted)])
            self.assertEqual(worth_carried(book, "a1b", plan, reading, answers, {"1": (1,), "2": []})[0][:2], (0, 3))
            for kinds in (None, {}, {"1": []}, {"2": [1, 2]}):
                self.assertEqual(worth_carried(book, "a1b", plan, reading, answers, kinds), [])
                self.assertEqual(worth_carried(book, "1ab", plan, reading, answers, kinds), [])
                self.assertEqual(worth_carried(book, "ab1", plan, reading, answers, kinds), [])
            self.assertEqual(worth_carried(book, "ab", plan, reading, answers), worth_carried(
                book, "1ab1", plan, reading, answers, {"1": [0, 3]}))

    def test_answers_of_no_store(self):
        dice = random.Random(76)
        for _ in range(300):
            book = Book("any", dice.choice([["aaa", "aaaa"], ["aaa", "aa"], ["a", "aa", "aaaaa"]]))
            path = dice.choice(["aaaaa", "aaaaa", "a1aaaa1", "1aaaaa"]) if len(book) == 2 else "aaaaa"
            if not is_told(book, path):
                continue
            plan = some_plan(dice, book, path, dice.choice([0, 4, 8]))
            for reading in READINGS:
                answers = [[(x, y, dice.randint(1, 5)) for x in range(5) for y in range(5) if dice.random() < 0.4]
                           for _ in book]
                kinds = dice.choice([None, {"1": [0, 1, 77]}])
                found = worth_carried(book, path, plan, reading, answers, kinds)
                self.assertEqual(found, worth_carried(book, path, plan, reading, answers, kinds))
                self.assertTrue(all(type(x) is int for row in found for x in row))

    def test_nothing_is_changed(self):
        book, plan = Book("any", ["a", "b"]), [[0, "on"], [1, "on"]]
        answers, kinds = ([[0, 1, 2]], [(1, 3, 5)]), {"1": [1]}
        for reading in READINGS:
            found = worth_carried(book=book, path="a1b", plan=plan, reading=reading, answers=answers, kinds=kinds)
            self.assertEqual(len(found), 1)
            self.assertEqual((plan, answers, kinds),
                             ([[0, "on"], [1, "on"]], ([[0, 1, 2]], [(1, 3, 5)]), {"1": [1]}))
            found.clear()
            self.assertEqual(len(worth_carried(book, "a1b", tuple(map(tuple, plan)), reading, list(answers), kinds)), 1)

    def test_errors_in_order(self):
        book, plan = Book("any", ["a", "b"]), [(0, "on"), (1, "on")]
        right = [[(0, 1, 2)], [(1, 0, 2)]]
        for wrong in NO_BOOKS:
            self.assertIs(raised(BadBook, worth_carried, wrong, "", None, None, None, 3).book, wrong)
        for path in NO_PATHS + ["A"]:
            self.assertIs(raised(BadPath, worth_carried, book, path, None, None, None, 3).path, path)
        for thing in NO_LISTS + [[], [(0, "on")], [(0, "on"), (1, "back")], [(0, "on"), (2, "on")], "ab", [(False, "on"), (1, "on")],
                                 [(0, "on"), (1, "on", 1)], [(0, "on"), (1, "On")], [(1, "on"), (0, "on")], plan + [(1, "on")]]:
            self.assertIs(raised(BadPlan, worth_carried, book, "ab", thing, None, None, 3).plan, thing)
        for reading in NO_READINGS:
            self.assertIs(raised(BadReading, worth_carried, book, "ab", plan, reading, None, 3).reading, reading)
        for reading in READINGS:
            for answers in NO_LISTS + ["ab"]:
                self.assertEqual(raised(BadAnswers, worth_carried, book, "ab", plan, reading, answers, 3).index, 0)
            for item in NO_LISTS + ["ab", [()], [(0, 1)], [(0, 1, 1, 1)], [(0, -1, 1)], [(-1, 0, 1)], [(True, 0, 1)],
                                    [(0, False, 1)], [(0, 1, True)], [(0, 1, -1)], [(0, 1, "1")], [(0, 1, 1), (0, 1, 1)],
                                    [(0, 1, 1), (1, 1, 1), [0, 1, 2]], [(0, 1, 1), None], ["abc"]]:
                for answers, index in [([right[0], item], 1), ([item, right[1]], 0), ([item, None], 0),
                                       ((right[0], item, right[1]), 1)]:
                    self.assertEqual(raised(BadAnswers, worth_carried, book, "ab", plan, reading, answers, 3).index, index)
            for answers, index in [([], 0), ([right[0]], 1), (right + [[]], 2)]:
                self.assertEqual(raised(BadAnswers, worth_carried, book, "ab", plan, reading, answers, 3).index, index)
            for kinds in [0, 3, "1", [], [("1", [0])], True]:
                self.assertIs(raised(BadKind, worth_carried, book, "ab", plan, reading, right, kinds).kind, kinds)
            for kind in ["", "a", "12", 1, None]:
                self.assertIs(raised(BadKind, worth_carried, book, "ab", plan, reading, right,
                                     {"1": [7, 7], kind: [], "x": 0}).kind, kind)
            for row in NO_LISTS + ["0", [-1], [True], ["0"], [None], [[0]]]:
                self.assertEqual(raised(BadKind, worth_carried, book, "ab", plan, reading, right, {"1": row}).kind, "1")
        self.assertEqual(worth_carried(book, "ab", plan, "costs", [[(0, 1, 0)], [(1, 0, 0)]]), [(0, 0, 0)])
        for reading in ("widths", "ways"):
            self.assertEqual(raised(BadAnswers, worth_carried, book, "ab", plan, reading, [[], [(0, 1, 0)]]).index, 1)

    def test_many_things_and_long_plans(self):
        dice = random.Random(77)
        book = Book("any", ["a" * many for many in range(1, 9)])
        begun = time.monotonic()
        for reading, many, top in [("costs", 30, 1000), ("widths", 30, 1000), ("ways", 12, 9), ("ways", 12, 10 ** 9)]:
            links = {"a": [(x, y, dice.randint(1, top)) for x in range(many) for y in range(many) if dice.random() < 0.9]}
            for extra in (0, 20):
                self.check(book, "aaaaaaaa", some_plan(dice, book, "aaaaaaaa", extra), Weights(reading, many, links))
        self.assertLess(time.monotonic() - begun, 60)


class WorthOpen(unittest.TestCase):
    def test_open_paths(self):
        dice = random.Random(78)
        many = 0
        for _ in range(700):
            book = some_book(dice, "any", 6, 5, dice.choice(["", "1", "123"]))
            path = some_path(dice, "any", 8, dice.choice(["", "1", "123"]))
            for reading in READINGS:
                if is_told(book, path):
                    self.assertIs(raised(IsTold, worth_open, book, path, reading).path, path)
                    continue
                found = worth_open(book, path, reading)
                self.assertEqual((type(found), len(found)), (tuple, 2))
                self.assertEqual(found, worth_open(Book("any", tuple(book.kept())), path, reading))
                one, other = found
                self.assertEqual((one.reading, one.many, one.kinds()), (reading, other.many, other.kinds()))
                self.assertEqual(other.reading, reading)
                for kept in book:
                    self.assertEqual(one.answer(kept), other.answer(kept), (book.kept(), path))
                self.assertNotEqual(one.answer(path), other.answer(path), (book.kept(), path))
                self.assertIs(is_worth_witness(book, path, one, other), True)
                self.assertIs(is_worth_witness(book, path, other, one), True)
                many += 1
        self.assertGreater(many, 300)

    def test_kinds_that_kept_paths_lack(self):
        # All ways over a place with fewer kinds must be as many in both rows.
        for kept, path in [(["ab"], "a1b"), (["ab", "a1b"], "a12b"), (["abc", "a1bc", "ab2c", "b"], "a1b2c"),
                           (["abc", "a1bc", "a2bc", "a12bc", "a1b3c"], "a12b3c"), (["aa", "a", "a1a1a"], "a12a1a"),
                           ([], "0a0123b"), (["abcdefgh", "bc", "b1c"], "0a0123b0123c0123d0123e0123f0123g0123h1")]:
            book = Book("any", kept)
            for reading in READINGS:
                if not is_told(book, path):
                    one, other = worth_open(book, path, reading)
                    self.assertIs(is_worth_witness(book, path, one, other), True, (kept, path, reading))
        self.assertIs(raised(IsTold, worth_open, Book("any", ["aa", "a"]), "a12a", "ways").path, "a12a")

    def test_is_worth_witness(self):
        book = Book("any", ["a", "ab"])
        for reading in READINGS:
            one, other = Weights(reading, 2, {}), Weights(reading, 2, {"b": [(0, 1, 2)]})
            third = Weights(reading, 2, {"b": [(0, 1, 3)]})
            for left, right in itertools.permutations([one, other, third], 2):
                self.assertIs(is_worth_witness(book, "b", left, right), True)
                self.assertIs(is_worth_witness(book, "a", left, right), False)
                self.assertIs(is_worth_witness(book.further(["b"]), "b", left, right), False)
            self.assertIs(is_worth_witness(book, "b", one, one), False)
            self.assertIs(is_worth_witness(book, "b", one, Weights(reading, 3, {"b": [(0, 1, 2)]})), False)
            self.assertIs(is_worth_witness(book, "b", one, Weights(reading, 2, {"b": [(0, 1, 2)]}, {"1": [0]})), False)
            self.assertIs(is_worth_witness(Book("any", ["1a"]), "1b", Weights(reading, 2, {}, {"1": [1]}), Weights(
                reading, 2, {"b": [(0, 1, 2)]}, {"1": [0]})), False)
            for more in READINGS:
                unlike = Weights(more, 2, {"b": [(0, 1, 2)]})
                self.assertIs(is_worth_witness(book, "b", one, unlike), more == reading)
            stores = [Store("any", 2, {}), Store("any", 2, {"b": [(0, 1)]})]
            for thing in NO_LISTS + stores + ["", [], (), one.links(), book]:
                for left, right in [(thing, other), (one, thing), (thing, thing)]:
                    self.assertIs(is_worth_witness(book, "b", left, right), False)

    def test_equal_answers_but_for_worths(self):
        # Both join the same pairs, so that no stores without worths could show it.
        for reading in READINGS:
            one, other = (Weights(reading, 2, {"a": [(0, 1, worth)], "b": [(1, 0, 5)]}) for worth in (2, 3))
            self.assertIs(is_worth_witness(Book("any", ["b"]), "a", one, other), True)
            self.assertIs(is_worth_witness(Book("any", ["b"]), "ab", one, other), True)
            self.assertIs(is_worth_witness(Book("any", ["b", "a"]), "ab", one, other), False)
        # A told path has no such stores.
        dice = random.Random(79)
        for _ in range(300):
            one, other = some_weights(dice, "ways", 2, 2), some_weights(dice, "ways", 2, 2)
            self.assertIs(is_worth_witness(Book("any", ["a", "b"]), "abba", one, other), False)

    def test_errors_in_order(self):
        book = Book("any", ["a"])
        for wrong in NO_BOOKS:
            self.assertIs(raised(BadBook, worth_open, wrong, "", None).book, wrong)
            self.assertIs(raised(BadBook, is_worth_witness, wrong, "", None, None).book, wrong)
        for path in NO_PATHS + ["A"]:
            self.assertIs(raised(BadPath, worth_open, book, path, None).path, path)
            self.assertIs(raised(BadPath, is_worth_witness, book, path, None, None).path, path)
        for reading in NO_READINGS:
            for path in ("a", "b"):
                self.assertIs(raised(BadReading, worth_open, book, path, reading).reading, reading)
        path = "".join(["a", "a"])
        self.assertIs(raised(IsTold, worth_open, book=book, path=path, reading="ways").path, path)
        self.assertIs(is_worth_witness(other=None, one=None, path="b", book=book), False)


if __name__ == "__main__":
    unittest.main()
