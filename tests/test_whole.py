"""The whole program: [1] to [5], the examples of [30] to [33], and answers that agree in whatever way one asks."""

import random
import unittest

from helping import MANNERS, raised, some_book, some_path, some_store
from toldpaths.books import Book
from toldpaths.carriers import Carrier
from toldpaths.choices import asks, greatest, least, needless, tells_all, touched
from toldpaths.desks import Desk
from toldpaths.errors import IsTold, PathError
from toldpaths.groups import Group
from toldpaths.hands import grants, is_safe, telling
from toldpaths.logs import Log
from toldpaths.machines import machine
from toldpaths.mixed import MixedStore, form, is_mixed
from toldpaths.mixedbooks import MixedBook
from toldpaths.opened import Opened
from toldpaths.paths import back, is_path, joined, marks, piece, reduced, steps, tree
from toldpaths.plans import carried, is_plan
from toldpaths.stores import Store
from toldpaths.tells import is_joined, is_told, is_witness, verdict
from toldpaths.weights import Weights, is_worth_witness, worth_carried, worth_open


def back_to_front(path):
    """Return a path read from its end on, with its kinds where they stand."""
    kinds = marks(path)[::-1]
    return kinds[0] + "".join(step + kind for step, kind in zip(steps(path)[::-1], kinds[1:]))


def renamed(names, path):
    """Return a path with other letters and digits."""
    kinds = ["".join(sorted(names.get(kind, kind) for kind in mark)) for mark in marks(path)]
    letters = [names[step.lower()] if step.islower() else names[step.lower()].upper() for step in steps(path)]
    return kinds[0] + "".join(letter + kind for letter, kind in zip(letters, kinds[1:]))


def some_question(dice):
    manner = dice.choice(MANNERS)
    kinds = dice.choice(["", "", "1", "12"])
    return some_book(dice, manner, 6, 4, kinds), some_path(dice, manner, 6, kinds)


class OneAnswer(unittest.TestCase):
    def test_in_whatever_way_one_asks(self):
        dice = random.Random(141)
        many = {}
        for _ in range(1200):
            book, path = some_question(dice)
            manner, kept = book.manner, book.kept()
            told = is_told(book, path)
            many[(manner, told)] = many.get((manner, told), 0) + 1
            self.assertIs(verdict(book, path)[0] == "told", told)
            self.assertIs(tells_all(book, Book(manner, [path])), told)
            self.assertIs(touched(book, [], path), not told)
            self.assertIs(len(least(manner, kept, [path])) > 0, told)
            self.assertIs(list(range(len(kept))) in greatest(manner, kept, [path]), not told)
            if path not in kept:
                self.assertIs(len(kept) in needless(book.further([path])), told)
            desk, log = Desk(manner), Log(manner)
            for other in kept:
                desk.keep(other)
                log.keep(other)
            self.assertIs(desk.tells(path), told)
            self.assertIs(log.tells(path), told)
            self.assertIs(log.anew([path]) == [[]], told)
            hands = [kept[at:at + 2] for at in range(0, len(kept), 2)]
            self.assertIs(len(telling(manner, hands, path)) > 0, told)
            self.assertIs(is_safe(manner, hands, len(hands), [path]), not told)
            one = [kept[:4], kept[4:]]
            self.assertIs(grants(manner, one, 2, [path], kept[0] if kept else "a") == [0, 1],
                          not told and is_safe(manner, one + [[kept[0] if kept else "a"]], 3, [path]))
            self.ask_of_one_manner(book, path, told)
        self.assertEqual(len(many), 6)
        self.assertGreater(min(many.values()), 30)

    def ask_of_one_manner(self, book, path, told):
        manner, kept = book.manner, book.kept()
        plain = all(sign.isalpha() for sign in path + "".join(kept))
        if manner == "any":
            for reading in ("costs", "widths", "ways"):
                if told:
                    raised(IsTold, worth_open, book, path, reading)
                else:
                    self.assertIs(is_worth_witness(book, path, *worth_open(book, path, reading)), True)
            self.assertIs(not told or path in asks(book, path), True)
            self.assertIs(is_joined(book, path) and not told, False)
        if manner == "any" and plain:
            self.assertIs(machine(book).has(path), told)
            self.assertIs(machine(book).leads([(letter, 1) for letter in path]), told)
            self.assertIs(MixedBook("z", kept).tells("zZ" + path), told)
        if manner == "turned":
            self.assertIs(Group(kept).has(path), told)
            self.assertIs(Group(kept) == Group(kept + [path]), told)
            self.assertIs(machine(book).has(reduced(path)), told)
            # Who knows where kept paths lead from one thing on knows it of all told ones.
            opened = Opened("turned", [(other, 0, 0) for other in kept])
            self.assertIs((0, 0) in opened.sure(path), told and kept != [])

    def test_plans_find_answers(self):
        dice = random.Random(142)
        found = 0
        for _ in range(800):
            book, path = some_question(dice)
            if not is_told(book, path):
                continue
            plan = verdict(book, path)[1]
            self.assertIs(is_plan(book, path, plan), True)
            store = some_store(dice, book.manner, dice.randrange(1, 5))
            answers = [store.answer(other) for other in book]
            answer = carried(book, path, plan, answers, store.kinds() if book.manner == "any" else None)
            if plan != []:
                self.assertEqual(answer, store.answer(path))
            found += 1
            if all(sign.isalpha() for sign in path + "".join(book.kept())):
                carrier = Carrier(book, [(path, plan)])
                for index, pairs in enumerate(answers):
                    for pair in pairs:
                        carrier.add(index, pair)
                self.assertEqual(carrier.answer(0), answer)
        self.assertGreater(found, 100)

    def test_other_names(self):
        dice = random.Random(143)
        for _ in range(400):
            book, path = some_question(dice)
            names = dict(zip("ab12", dice.choice([("b", "a", "2", "1"), ("z", "c", "0", "9"), ("q", "a", "7", "3")])))
            other = Book(book.manner, [renamed(names, kept) for kept in book])
            self.check_alike(book, path, other, renamed(names, path))
            if book.manner == "turned":
                # A step and its back can be exchanged.
                other = Book("turned", [kept.replace("a", "!").replace("A", "a").replace("!", "A") for kept in book])
                self.check_alike(book, path, other, path.replace("a", "!").replace("A", "a").replace("!", "A"))

    def test_back_to_front(self):
        dice = random.Random(144)
        for _ in range(400):
            book, path = some_question(dice)
            self.check_alike(book, path, Book(book.manner, [back_to_front(kept) for kept in book]), back_to_front(path))
            if book.manner != "any":
                self.check_alike(book, path, book, back(path))
                self.check_alike(book, path, Book(book.manner, [back(kept) for kept in book]), path)
        for _ in range(300):
            kept = list(dict.fromkeys(dice.choice("aGgb") * dice.randrange(2) + "a" + "".join(
                dice.choice("gGab") for _ in range(dice.randrange(3))) for _ in range(4)))
            path = "a" + "".join(dice.choice("gGab") for _ in range(dice.randrange(5)))
            told = MixedBook("g", kept).tells(path)
            self.assertIs(MixedBook("g", [other[::-1] for other in kept]).tells(path[::-1]), told)
            turned = [other.replace("g", "!").replace("G", "g").replace("!", "G") for other in kept + [path]]
            self.assertIs(MixedBook("g", turned[:-1]).tells(turned[-1]), told)

    def check_alike(self, book, path, other, renamed_path):
        told = is_told(book, path)
        self.assertIs(is_told(other, renamed_path), told, (book.manner, book.kept(), path))
        self.assertEqual(needless(book) if len(other) == len(book) else [], needless(other) if len(other) == len(book) else [])
        found = verdict(other, renamed_path)
        if found[0] == "open":
            self.assertIs(is_witness(other, renamed_path, found[1], found[2]), True)
        if book.manner == "any":
            count = [(sum(way == "back" for _, way in row[1]), len(row[1]))
                     for row in (found, verdict(book, path)) if row[0] == "told"]
            self.assertEqual(count[1:], count[:-1])
            self.assertEqual(len(asks(book, path)), len(asks(other, renamed_path)))


class Examples(unittest.TestCase):
    def test_thirty(self):
        book = Book("any", ["aaa", "aaaa"])
        plan = [(1, "on"), (0, "back"), (1, "on")]
        self.assertIs(is_told(book, "aaaaa"), True)
        self.assertIs(is_plan(book, "aaaaa", plan), True)
        self.assertEqual(verdict(book, "aaaaa"), ("told", plan))
        self.assertIs(is_joined(book, "aaaaa"), False)
        answers = [[(0, 3), (1, 4), (2, 5)], [(0, 4), (1, 5)]]
        self.assertEqual(carried(book, "aaaaa", plan, answers), [(0, 5)])
        carrier = Carrier(book, [("aaaaa", plan)])
        for index, pairs in enumerate(answers):
            for pair in pairs:
                carrier.add(index, pair)
        self.assertEqual(carrier.answer(0), [(0, 5)])
        for reading, worth in (("costs", 5), ("widths", 1), ("ways", 1)):
            store = Weights(reading, 6, {"a": [(x, x + 1, 1) for x in range(5)]})
            found = worth_carried(book, "aaaaa", plan, reading, [store.answer("aaa"), store.answer("aaaa")])
            self.assertEqual(found, [(0, 5, worth)])
        self.assertIs(is_told(book, "aa"), False)
        self.assertIs(is_told(Book("any", ["aaaa"]), "aaaaaa"), False)
        self.assertEqual(machine(book).rows(), [(True, {"a": 1}), (False, {"a": 2}), (False, {"a": 3}), (True, {"a": 3})])
        self.assertEqual(telling("any", [["aaa"], ["aaaa"]], "aaaaa"), [[0, 1]])
        self.assertEqual(MixedBook("", ["aaa", "aaaa"]).verdict("aaaaa"), ("told", plan))

    def test_thirty_one(self):
        self.assertIs(is_told(Book("any", ["a", "ab"]), "b"), False)
        plan = [(0, "on"), (1, "back"), (2, "on")]
        self.assertEqual(verdict(Book("any", ["ab", "b", "bc"]), "abc"), ("told", plan))
        self.assertEqual(MixedBook("xyz", ["ab", "b", "bc"]).verdict("abc"), ("told", plan))

    def test_thirty_two(self):
        for manner, told in (("matched", False), ("turned", True)):
            self.assertIs(is_told(Book(manner, ["ab", "B"]), "a"), told)
            self.assertIs(is_told(Book(manner, ["ab", "B"]), "abB"), True)
        self.assertEqual((tree("abB"), reduced("abB")), (["", "a", "ab"], "a"))
        # Of 0 it is known that ab leads to 1, and of 1 that B leads to 2.
        for manner in ("matched", "turned"):
            opened = Opened(manner, [("ab", 0, 1), ("B", 1, 2)])
            self.assertEqual((opened.sure("abB"), opened.sure("a")), ([(0, 2)], [(0, 2)]))

    def test_thirty_three(self):
        self.assertIs(is_told(Book("any", ["a1b", "b"]), "ab"), False)
        self.assertIs(is_told(Book("any", ["a", "b"]), "1a2b"), True)


class ByName(unittest.TestCase):
    def test_functions(self):
        book = Book(manner="any", kept=["a", "b"])
        store = Store(manner="any", many=2, links={"a": [(0, 1)]}, kinds=None)
        plan = [(0, "on"), (1, "on")]
        self.assertIs(is_path(manner="any", thing="a1"), True)
        self.assertEqual((steps(path="a1"), marks(path="a1")), (["a"], ["", "1"]))
        self.assertEqual((piece(path="abc", i=1, j=2), joined(one="a", other="b")), ("b", "ab"))
        self.assertEqual((back(path="aB"), reduced(path="aA"), tree(path="a")), ("bA", "", ["", "a"]))
        self.assertEqual((store.answer(path="a"), Store.of_text(text=store.text())), ([(0, 1)], store))
        self.assertEqual((book.further(paths=["c"]).kept(), book.without(indices=[0]).kept()), (["a", "b", "c"], ["b"]))
        self.assertIs(is_plan(book=book, path="ab", thing=plan), True)
        self.assertEqual(carried(book=book, path="ab", plan=plan, answers=[[(0, 1)], [(1, 2)]], kinds=None), [(0, 2)])
        self.assertIs(is_told(book=book, path="ab"), True)
        self.assertEqual(verdict(book=book, path="ab"), ("told", plan))
        self.assertIs(is_witness(book=book, path="ab", one=store, other=store), False)
        self.assertIs(is_joined(book=book, path="ab"), True)
        self.assertIs(tells_all(book=book, other=book), True)
        self.assertEqual((needless(book=book), asks(book=book, path="abc")[0]), ([], "c"))
        self.assertEqual(least(manner="any", menu=["a"], wishes=["a"]), [[0]])
        self.assertEqual(greatest(manner="any", menu=["a"], secrets=["a"]), [[]])
        self.assertIs(touched(book=book, indices=[0], path="a"), True)
        self.assertEqual(telling(manner="any", hands=[["a"]], path="a"), [[0]])
        self.assertIs(is_safe(manner="any", hands=[["a"]], k=1, secrets=["a"]), False)
        self.assertEqual(grants(manner="any", hands=[["a"]], k=1, secrets=["b"], path="c"), [0])
        self.assertEqual((is_mixed(turned="g", thing="a"), form(turned="g", path="ag")), (True, ["", "a", "g"]))
        self.assertEqual(worth_carried(book=book, path="a", plan=plan[:1], reading="ways", answers=[[(0, 1, 2)], []],
                                       kinds=None), [(0, 1, 2)])
        self.assertEqual(len(worth_open(book=book, path="c", reading="ways")), 2)
        self.assertIs(is_worth_witness(book=book, path="c", one=store, other=store), False)

    def test_methods(self):
        reader = machine(book=Book("any", ["a"]))
        self.assertEqual((reader.has(path="a"), reader.count(n=2), reader.nth(n=2, i=0)), (True, 1, "aa"))
        self.assertEqual((reader.first_lacking(other=reader), reader.both(other=reader) == reader), (None, True))
        self.assertEqual((reader.either(other=reader) == reader, reader.less(other=reader).rows()), (True, [(False, {})]))
        self.assertEqual((reader.leads(pieces=[("a", 3)]), reader.ends_along(pieces=[("a", 3)])), (True, 4))
        desk, log = Desk(manner="any"), Log(manner="any")
        self.assertEqual((desk.keep(path="a"), desk.tells(path="aa"), desk.undo(), desk.now().kept()), (False, True, True, []))
        self.assertEqual((log.keep(path="a"), log.change(letter="a"), log.tells(path="a", moment=0)), (None, None, True))
        self.assertEqual((log.anew(wishes=["a"]), log.now(), log.kept(), log.undo()), ([[0]], 1, [("a", 0)], True))
        weights = Weights(reading="ways", many=1, links={"a": [(0, 0, 2)]}, kinds={"1": [0]})
        self.assertEqual((weights.answer(path="a1a"), weights.reading, weights.many), ([(0, 0, 4)], "ways", 1))
        group = Group(paths=["aa"])
        self.assertEqual((group.has(path="aa"), group.cosets(letters="a"), group.power(path="a")), (True, 2, 2))
        self.assertEqual((group.both(other=group) == group, group.joined(other=group) == group), (True, True))
        self.assertIs(group.turned_by(path="a") == group, True)
        opened = Opened(manner="turned", facts=[("a", 0, 1)])
        self.assertEqual((opened.sure(path="a"), opened.can_be(path="a", x=0, y=0), opened.is_clash(thing=None)),
                         ([(0, 1)], False, False))
        store = MixedStore(turned="g", many=1, links={"a": [(0, 0)]})
        self.assertEqual((store.answer(path="ag"), store.turned, store.many), ([(0, 0)], "g", 1))
        book = MixedBook(turned="g", kept=["a"])
        self.assertEqual((book.tells(path="a"), book.turned, book.needless()), (True, "g", []))
        self.assertIs(book.is_plan(path="a", thing=[(0, "on")]), True)
        self.assertEqual(book.carried(path="a", plan=[(0, "on")], answers=[[(0, 1)]]), [(0, 1)])
        self.assertIs(book.is_witness(path="a", one=store, other=store), False)
        carrier = Carrier(book=Book("any", ["a"]), asked=[("a", [(0, "on")])])
        self.assertEqual(carrier.add(index=0, pair=(0, 1)), [([(0, 1)], [])])
        self.assertEqual((carrier.answer(n=0), carrier.drop(index=0, pair=(0, 1))), ([(0, 1)], [([], [(0, 1)])]))

    def test_errors_are_of_one_kind(self):
        for call in (lambda: Weights(1, 1, {}), lambda: Opened("any", []), lambda: Log(1), lambda: telling(1, [], "a"),
                     lambda: MixedStore(1, 1, {}), lambda: MixedBook(1, []), lambda: Carrier(1, [])):
            self.assertRaises(PathError, call)
            self.assertRaises(ValueError, call)


if __name__ == "__main__":
    unittest.main()
