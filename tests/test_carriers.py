"""Point [57], and [3] to [5] for it."""

import random
import time
import unittest

from helping import MANNERS, NO_LISTS, NO_PATHS, raised, some_book, some_path
from toldpaths.books import Book
from toldpaths.carriers import Carrier
from toldpaths.errors import BadBook, BadIndex, BadPiece, BadThing
from toldpaths.mixedbooks import MixedBook
from toldpaths.plans import carried, is_plan
from toldpaths.stores import Store
from toldpaths.tells import is_told, verdict

NO_INDICES = [True, False, None, -1, 10 ** 20, "0", "", [0], (), {}, 0.0]

NO_PAIRS = NO_LISTS + ["", "ab", (), (0,), (0, 1, 2), (-1, 0), (0, -1), (True, 0), (0, False), ("0", 1), (0, None), [[0, 1]],
                       ((0,), (1,)), (0, 1.0)]


def came_and_went(before, now):
    return (sorted(set(now) - set(before)), sorted(set(before) - set(now)))


class InTurns(unittest.TestCase):
    def test_by_hand(self):
        book = Book("any", ["ab", "b", "bc"])
        carrier = Carrier(book, [("abc", [(0, "on"), (1, "back"), (2, "on")]), ("bc", [(2, "on")])])
        self.assertEqual((carrier.answer(0), carrier.answer(1), carrier.kept()), ([], [], [[], [], []]))
        self.assertIs(carrier.undo(), None)
        self.assertEqual(carrier.add(1, (1, 2)), [([], []), ([], [])])
        self.assertEqual(carrier.add(2, [1, 3]), [([], []), ([(1, 3)], [])])
        self.assertEqual(carrier.add(0, (0, 2)), [([(0, 3)], []), ([], [])])
        self.assertEqual((carrier.answer(0), carrier.answer(1)), ([(0, 3)], [(1, 3)]))
        # Another thing leads to 2 by b, but not on to 3 by bc: that the answer is lost is what "for all" means.
        self.assertEqual(carrier.add(1, (5, 2)), [([], [(0, 3)]), ([], [])])
        self.assertEqual(carrier.kept(), [[(0, 2)], [(1, 2), (5, 2)], [(1, 3)]])
        self.assertEqual(carrier.undo(), [([(0, 3)], []), ([], [])])
        self.assertEqual(carrier.drop(2, (1, 3)), [([], [(0, 3)]), ([], [(1, 3)])])
        self.assertEqual(carrier.undo(), [([(0, 3)], []), ([(1, 3)], [])])
        self.assertEqual(carrier.undo(), [([], [(0, 3)]), ([], [])])
        self.assertEqual(carrier.undo(), [([], []), ([], [(1, 3)])])
        self.assertEqual(carrier.undo(), [([], []), ([], [])])
        self.assertIs(carrier.undo(), None)
        self.assertEqual(carrier.kept(), [[], [], []])

    def test_the_empty_plan(self):
        carrier = Carrier(Book("turned", ["a", "b"]), [("aA", []), ("bB", [(0, "on"), (0, "back")]), ("a", [(0, "on")])])
        self.assertEqual(carrier.add(0, (3, 1)), [([(1, 1), (3, 3)], []), ([(3, 3)], []), ([(3, 1)], [])])
        self.assertEqual(carrier.add(1, (1, 8)), [([(8, 8)], []), ([], []), ([], [])])
        self.assertEqual(carrier.drop(0, (3, 1)), [([], [(3, 3)]), ([], [(3, 3)]), ([], [(3, 1)])])
        self.assertEqual(carrier.answer(0), [(1, 1), (8, 8)])
        carrier = Carrier(Book("turned", []), [("aA", [])])
        self.assertEqual((carrier.answer(0), carrier.kept(), carrier.undo()), ([], [], None))

    def test_without_anything_asked(self):
        for manner in MANNERS:
            carrier = Carrier(asked=(), book=Book(manner, ["a"]))
            self.assertEqual(carrier.add(pair=(0, 1), index=0), [])
            self.assertEqual(carrier.drop(index=0, pair=(0, 1)), [])
            self.assertEqual((carrier.undo(), carrier.undo(), carrier.undo()), ([], [], None))
            self.assertEqual(raised(BadIndex, carrier.answer, 0).index, 0)
        self.assertEqual(Carrier(Book("any", ["a"]), [("a", [(0, "on")])]).answer(n=0), [])

    def test_forms_and_copies(self):
        plan, pair = [[0, "on"]], [0, 1]
        item = ["a", plan]
        asked = [item]
        carrier = Carrier(Book("any", ["a"]), asked)
        plan.append([0, "on"])
        item[0] = "b"
        asked.append(3)
        found = carrier.add(0, pair)
        pair[0] = 7
        self.assertEqual(found, [([(0, 1)], [])])
        self.assertEqual([type(found), type(found[0]), type(found[0][0]), type(found[0][1]), type(found[0][0][0])],
                         [list, tuple, list, list, tuple])
        self.assertEqual((carrier.kept(), carrier.answer(0)), ([[(0, 1)]], [(0, 1)]))
        self.assertEqual(type(carrier.kept()[0][0]), tuple)
        first, kept = carrier.answer(0), carrier.kept()
        later = carrier.add(0, (2, 2))
        self.assertEqual((found, first, kept), ([([(0, 1)], [])], [(0, 1)], [[(0, 1)]]))
        for thing in (found, found[0][0], first, kept, kept[0], later, carrier.kept(), carrier.kept()[0], carrier.answer(0)):
            thing.clear()
        self.assertEqual((carrier.kept(), carrier.answer(0)), ([[(0, 1), (2, 2)]], [(0, 1), (2, 2)]))
        self.assertEqual(carrier.undo(), [([], [(2, 2)])])
        self.assertEqual((plan, asked), ([[0, "on"], [0, "on"]], [["b", plan], 3]))

    def test_against_carried_anew(self):
        dice = random.Random(131)
        for round_number in range(150):
            manner = MANNERS[round_number % 3]
            book, asked = self.some_asked(dice, manner)
            carrier = Carrier(book, asked)
            kept = [set() for _ in book]
            done = []
            states = []
            for _ in range(40):
                before = [carried(book, path, plan, [sorted(row) for row in kept]) for path, plan in asked]
                self.check(carrier, asked, kept, before)
                what = dice.choice(["add", "add", "add", "drop", "undo"])
                index = dice.randrange(max(1, len(book)))
                pair = (dice.randrange(4), dice.randrange(4))
                if what == "undo":
                    found = carrier.undo()
                    self.assertIs(found is None, done == [])
                    if done == []:
                        continue
                    kept = done.pop()
                elif len(book) == 0:
                    self.assertEqual(raised(BadIndex, carrier.add, index, pair).index, index)
                    continue
                elif (pair in kept[index]) != (what == "drop"):
                    call = carrier.drop if what == "drop" else carrier.add
                    self.assertIs(raised(BadThing, call, index, pair).thing, pair)
                    continue
                else:
                    done.append([set(row) for row in kept])
                    found = carrier.drop(index, pair) if what == "drop" else carrier.add(index, pair)
                    kept[index] ^= {pair}
                now = [carried(book, path, plan, [sorted(row) for row in kept]) for path, plan in asked]
                self.assertEqual(found, [came_and_went(one, other) for one, other in zip(before, now)])
                states.append((found, [came_and_went(one, other) for one, other in zip(before, now)]))
            for _ in done:
                self.assertIsNot(carrier.undo(), None)
            self.assertIs(carrier.undo(), None)
            self.assertEqual(carrier.kept(), [[] for _ in book])
            self.assertEqual([carrier.answer(n) for n in range(len(asked))], [[] for _ in asked])
            for found, wanted in states:
                self.assertEqual(found, wanted)

    def check(self, carrier, asked, kept, wanted):
        self.assertEqual(carrier.kept(), [sorted(row) for row in kept])
        for n in range(len(asked)):
            self.assertEqual(carrier.answer(n), wanted[n])

    @staticmethod
    def some_asked(dice, manner):
        """Make a book without kinds and up to four paths that it tells, with plans that can be longer than they need be."""
        book = dice.choice([some_book(dice, manner, 5, 3, ""), Book(manner, ["aaa", "aaaa"]), Book(manner, ["ab", "b", "ba"])])
        asked = []
        for _ in range(60):
            path = some_path(dice, manner, 5, "")
            if len(asked) < 4 and is_told(book, path):
                plan = verdict(book, path)[1]
                # On and back once more, at the plan's beginning.
                turned = [(index, "back" if way == "on" else "on") for index, way in plan[:1]]
                ahead = (plan[:1] + turned) * dice.randrange(3)
                assert is_plan(book, path, ahead + plan)
                asked.append((path, ahead + plan))
        return book, asked

    def test_short_times(self):
        begun = time.monotonic()
        for manner, kept, path, plan in [
                ("any", ["aaa", "aaaa", "a"], "aaaaa", [(1, "on"), (0, "back"), (1, "on")]),
                ("any", ["aaa", "aaaa", "a"], "aaaaa", [(1, "on"), (2, "back"), (2, "back")] + [(2, "on"), (2, "back")] * 20
                 + [(0, "on")]),
                ("matched", ["aa", "a"], "aaaa", [(0, "on"), (1, "on"), (1, "on")]),
                ("turned", ["aa", "a"], "a", [(0, "on"), (1, "back")])]:
            carrier = Carrier(Book(manner, kept), [(path, plan)] * 4)
            for at in range(30):
                for index in range(len(kept)):
                    carrier.add(index, (at, (at + index) % 30))
            answers = carrier.kept()
            self.assertEqual(carrier.answer(3), carried(Book(manner, kept), path, plan, answers))
            while carrier.undo() is not None:
                pass
        self.assertLess(time.monotonic() - begun, 60)


class Wrong(unittest.TestCase):
    def test_bad_book(self):
        for book in NO_LISTS + ["", [], (), ["a"], MixedBook("", ["a"]), Store("any", 1, {}), Book("any", ["a", "1a"]),
                                Book("any", ["a1b"]), Book("any", ["a0"])]:
            self.assertIs(raised(BadBook, Carrier, book, None).book, book)

    def test_bad_piece(self):
        for manner in MANNERS:
            book, right = Book(manner, ["a", "ab"]), ("a", [(0, "on")])
            for asked in NO_LISTS + ["", "ab"]:
                self.assertEqual(raised(BadPiece, Carrier, book, asked).index, 0)
            wrong = NO_LISTS + ["", "ab", (), ("a",), ("a", [(0, "on")], 1), ([(0, "on")], "a"), ("a", []), ("a", [(1, "on")]),
                                ("a", [(0, "back")]), ("a", [(0, "On")]), ("a", [(False, "on")]), ("a", None), ("a", 5), ("b", [(0, "on")]),
                                ("1a", [(0, "on")]), ("a1", [(0, "on")]), ("1", [(0, "on")])]
            for item in wrong + [(path, [(0, "on")]) for path in NO_PATHS]:
                self.assertEqual(raised(BadPiece, Carrier, book, [right, item, None]).index, 1, item)
                self.assertEqual(raised(BadPiece, Carrier, book, (item, right)).index, 0, item)
            self.assertEqual(raised(BadPiece, Carrier, book, [right] * 5).index, 4)
            self.assertEqual(raised(BadPiece, Carrier, book, [right] * 4 + [None, None]).index, 4)
            self.assertEqual(raised(BadPiece, Carrier, book, [right] * 3 + [None, None]).index, 3)
            self.assertEqual(Carrier(book, [right] * 4).add(0, (0, 0)), [([(0, 0)], [])] * 4)
        self.assertEqual(raised(BadPiece, Carrier, Book("any", ["a"]), [("A", [(0, "back")])]).index, 0)

    def test_nothing_is_changed_behind_an_error(self):
        for manner in MANNERS:
            carrier = Carrier(Book(manner, ["a", "b"]), [("a", [(0, "on")])])
            carrier.add(0, (0, 1))
            carrier.add(1, (2, 2))
            for index in NO_INDICES + [2]:
                for call in (carrier.add, carrier.drop):
                    self.assertIs(raised(BadIndex, call, index, None).index, index)
            for index in NO_INDICES + [1]:
                self.assertIs(raised(BadIndex, carrier.answer, index).index, index)
            for pair in NO_PAIRS:
                for call in (carrier.add, carrier.drop):
                    self.assertIs(raised(BadThing, call, 0, pair).thing, pair)
            for pair in ((0, 1), [0, 1]):
                self.assertIs(raised(BadThing, carrier.add, 0, pair).thing, pair)
                self.assertIs(raised(BadThing, carrier.drop, 1, pair).thing, pair)
            for pair in ((1, 0), (2, 2), [7, 7]):
                self.assertIs(raised(BadThing, carrier.drop, 0, pair).thing, pair)
            self.assertEqual((carrier.kept(), carrier.answer(0)), ([[(0, 1)], [(2, 2)]], [(0, 1)]))
            self.assertEqual(carrier.undo(), [([], [])])
            self.assertEqual((carrier.kept(), carrier.answer(0)), ([[(0, 1)], []], [(0, 1)]))
            self.assertEqual(carrier.undo(), [([], [(0, 1)])])
            self.assertIs(carrier.undo(), None)

    def test_no_such_path(self):
        carrier = Carrier(Book("any", []), [])
        for index in (0, -1, True):
            self.assertIs(raised(BadIndex, carrier.add, index, (0, 0)).index, index)
        self.assertEqual(carrier.kept(), [])


if __name__ == "__main__":
    unittest.main()
