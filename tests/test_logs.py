"""Points [47] and [48], and [3] to [5] for them."""

import itertools
import random
import time
import unittest

from helping import MANNERS, NO_LISTS, NO_PATHS, raised, some_path
from toldpaths.books import Book
from toldpaths.errors import BadLetter, BadManner, BadMoment, BadPath, FullDesk
from toldpaths.logs import Log
from toldpaths.stores import Store
from toldpaths.tellers import is_told_by

SMALL = "abcdefghijklmnopqrstuvwxyz"

NO_LETTERS = ["", "A", "ab", "1", 1, None, True, ["a"], ("a",), {}, b"a", "\u00e4"]


class Plain:
    """A log by the words of [47] and [48], with a letter of its own for each link at each moment."""

    def __init__(self, manner):
        self.manner = manner
        self.done = []

    def changes(self):
        return [letter for what, letter in self.done if what == "change"]

    def kept(self):
        found, moment = [], 0
        for what, told in self.done:
            if what == "change":
                moment += 1
            else:
                found.append((told, moment))
        return found

    def at(self, names, path, moment):
        found = ""
        for sign in path:
            if sign.isdigit():
                found += sign
                continue
            key = (sign.lower(), self.changes()[:moment].count(sign.lower()))
            name = names.setdefault(key, SMALL[len(names) % 26])
            found += name if sign.islower() else name.upper()
        return found

    def tells(self, path, moment, more=()):
        names = {}
        kept = [self.at(names, other, at) for other, at in self.kept() + list(more)]
        asked = self.at(names, path, moment)
        assert len(names) <= 26
        return is_told_by(self.manner, kept, asked)

    def anew(self, wishes):
        now = len(self.changes())
        found = []
        for many in range(len(self.kept()) + 1):
            for chosen in itertools.combinations(range(len(self.kept())), many):
                more = [(self.kept()[index][0], now) for index in chosen]
                if all(self.tells(wish, now, more) for wish in wishes):
                    if not any(set(fewer) <= set(chosen) for fewer in found):
                        found.append(list(chosen))
        return found


class Logs(unittest.TestCase):
    def test_in_turns(self):
        for manner in MANNERS:
            log = Log(manner=manner)
            self.assertEqual((log.now(), log.kept(), log.undo()), (0, [], False))
            self.assertIs(log.keep("ab"), None)
            self.assertIs(log.keep(path="a"), None)
            self.assertIs(log.change("b"), None)
            self.assertIs(log.keep("b"), None)
            self.assertIs(log.change(letter="a"), None)
            self.assertIs(log.keep("ab"), None)
            self.assertEqual((log.now(), log.kept()), (2, [("ab", 0), ("a", 0), ("b", 1), ("ab", 2)]))
            self.assertEqual({type(row) for row in log.kept()}, {tuple})
            self.assertIs(log.undo(), True)
            self.assertEqual((log.now(), log.kept()), (2, [("ab", 0), ("a", 0), ("b", 1)]))
            self.assertIs(log.undo(), True)
            self.assertEqual((log.now(), log.kept()), (1, [("ab", 0), ("a", 0), ("b", 1)]))
            self.assertIs(log.undo(), True)
            self.assertIs(log.undo(), True)
            self.assertEqual((log.now(), log.kept()), (0, [("ab", 0), ("a", 0)]))
            log.keep("a")
            self.assertEqual(log.kept(), [("ab", 0), ("a", 0), ("a", 0)])
            self.assertEqual([log.undo() for _ in range(4)], [True, True, True, False])
            self.assertEqual((log.now(), log.kept()), (0, []))

    def test_moments(self):
        for manner in MANNERS:
            log = Log(manner)
            log.keep("ab")
            log.change("b")
            log.keep("b")
            log.change("c")
            for path, wanted in [("ab", [True, False, False]), ("b", [False, True, True]), ("bb", [False, True, True]),
                                 ("a", [False] * 3), ("abb", [False] * 3), ("c", [False] * 3)]:
                self.assertEqual([log.tells(path, moment) for moment in range(3)], wanted, (manner, path))
                self.assertIs(log.tells(path=path), wanted[2])
                self.assertIs(log.tells(path, moment=None), wanted[2])
            log.keep("ab")
            self.assertIs(log.tells("ab"), True)
            # c did not matter, so that this is the answer of moment 1, too. b is another one at 0, which
            # is told just if a is: ab and the back of b.
            self.assertIs(log.tells("ab", 1), True)
            self.assertIs(log.tells("abb", 1), True)
            self.assertIs(log.tells("abb", 0), manner == "turned")
            log.undo()
            self.assertIs(log.tells("ab", 1), False)

    def test_answers_of_several_moments_together(self):
        log = Log("any")
        log.keep("aaa")
        log.change("b")
        log.keep("aaaa")
        self.assertIs(log.tells("aaaaa", 0), True)
        self.assertIs(log.tells("aaaaa", 1), True)
        log.change("a")
        self.assertIs(log.tells("aaaaa", 1), True)
        self.assertIs(log.tells("aaaaa"), False)
        log.keep("aaa")
        self.assertIs(log.tells("aaaaa"), False)
        log.keep("aaaa")
        self.assertIs(log.tells("aaaaa"), True)
        log = Log("turned")
        log.keep("ab")
        log.change("a")
        log.keep("aC")
        log.change("c")
        log.keep("b")
        self.assertEqual([log.tells("a", moment) for moment in range(3)], [True, False, False])
        self.assertEqual([log.tells("c", moment) for moment in range(3)], [False, False, False])
        log.undo()
        log.undo()
        log.keep("c")
        self.assertEqual([log.tells("a", moment) for moment in range(2)], [False, True])
        self.assertEqual([log.tells("aA", moment) for moment in range(2)], [True, True])
        self.assertEqual([log.tells("BcCb", moment) for moment in range(2)], [True, True])

    def test_kinds_never_change(self):
        log = Log("any")
        log.keep("1a2")
        log.keep("2b")
        log.change("c")
        self.assertIs(log.tells("1a2b"), True)
        self.assertIs(log.tells("1a23b"), True)
        self.assertIs(log.tells("1ab"), False)
        log.change("a")
        self.assertIs(log.tells("1a2b"), False)
        self.assertIs(log.tells("1a2b", 1), True)
        self.assertEqual(log.anew(["1a2b"]), [[0]])

    def test_anew_by_hand(self):
        for manner in MANNERS:
            log = Log(manner)
            self.assertEqual(log.anew([]), [[]])
            self.assertEqual(log.anew(("a",)), [])
            for path in ("a", "b", "ab", "a"):
                log.keep(path)
            self.assertEqual(log.anew(["ab", "a"]), [[]])
            log.change("a")
            found = log.anew(wishes=["ab"])
            self.assertEqual(sorted(found), [[0], [2], [3]])
            self.assertEqual(sorted(log.anew(["a"])), [[0], [2], [3]] if manner == "turned" else [[0], [3]])
            self.assertEqual(log.anew(["b"]), [[]])
            self.assertEqual(log.anew(["b", "c"]), [])
            self.assertEqual({type(row) for row in found}, {list})
            found[0].append(9)
            self.assertEqual(sorted(log.anew(["a"]))[0], [0])

    def test_more_than_eight_in_all(self):
        log = Log("any")
        for path in "abcdefgh":
            log.keep(path)
        for letter in "abcdefgh":
            log.change(letter)
        self.assertEqual(log.anew(["abcdefgh"]), [[0, 1, 2, 3, 4, 5, 6, 7]])
        self.assertEqual(log.anew(["ha", "h", "c"]), [[0, 2, 7]])
        self.assertEqual(log.kept(), [(path, 0) for path in "abcdefgh"])
        self.assertIs(log.tells("abcdefgh", 0), True)

    def test_at_random(self):
        dice = random.Random(91)
        many = {True: 0, False: 0}
        for _ in range(60):
            manner = dice.choice(MANNERS)
            log, plain = Log(manner), Plain(manner)
            for _ in range(25):
                what = dice.choice(["keep", "keep", "change", "undo", "ask", "ask", "anew"])
                path = some_path(dice, manner, dice.choice([1, 2, 4]), "1")
                if what == "keep":
                    if len(plain.kept()) == 8:
                        raised(FullDesk, log.keep, path)
                    else:
                        log.keep(path)
                        plain.done.append(("keep", path))
                elif what == "change":
                    letter = dice.choice("aabc")
                    if len(plain.changes()) == 12:
                        raised(FullDesk, log.change, letter)
                    else:
                        log.change(letter)
                        plain.done.append(("change", letter))
                elif what == "undo":
                    self.assertIs(log.undo(), plain.done != [])
                    plain.done = plain.done[:-1]
                elif what == "ask":
                    for moment in range(log.now() + 1):
                        told = log.tells(path, moment)
                        self.assertIs(told, plain.tells(path, moment))
                        many[told] += 1
                else:
                    wishes = [some_path(dice, manner, 3, "1") for _ in range(dice.randrange(3))]
                    self.assertEqual(sorted(log.anew(wishes)), sorted(plain.anew(wishes)))
                self.assertEqual((log.now(), log.kept()), (len(plain.changes()), plain.kept()))
        self.assertGreater(min(many.values()), 100)

    def test_without_changes_it_is_a_book(self):
        dice = random.Random(92)
        for _ in range(200):
            manner = dice.choice(MANNERS)
            log, kept = Log(manner), []
            for _ in range(dice.randrange(5)):
                path = some_path(dice, manner, 3)
                log.keep(path)
                kept += [path] if path not in kept else []
            path = some_path(dice, manner, 5)
            self.assertIs(log.tells(path), is_told_by(manner, Book(manner, kept).kept(), path))
            log.change("z")
            self.assertIs(log.tells(path), log.tells(path, 0))

    def test_many_letters(self):
        begun = time.monotonic()
        for manner in MANNERS:
            log = Log(manner)
            for path in ["abc", "bcd", "efg", "hij", "klm", "nab", "jk", "d"]:
                log.keep(path)
            for letter in "abcdefghijkl":
                log.change(letter)
            self.assertIs(log.tells("abcd", 0), True)
            self.assertIs(log.tells("efghij", 0), True)
            self.assertIs(log.tells("abcd"), False)
            self.assertIn([0, 7], log.anew(["abcd"]))
            log.anew(["abcdefgh", "nabcd", "hijklm", "a"])
            # More letters than there are names for cause no error.
            self.assertIs(log.tells("opqrstuv"), False)
            self.assertIs(log.tells("zyxwvutsrqponmlkjihgfedcba", 12), False)
        self.assertLess(time.monotonic() - begun, 30)

    def test_copies(self):
        log = Log("matched")
        log.keep("ab")
        log.kept().append(3)
        wishes = ["ab"]
        self.assertEqual(log.anew(wishes), [[]])
        log.anew(wishes).append(3)
        self.assertEqual((log.kept(), wishes), ([("ab", 0)], ["ab"]))
        other = Log("matched")
        self.assertEqual((other.kept(), other.now(), other.undo()), ([], 0, False))


class Wrong(unittest.TestCase):
    def test_bad_manner(self):
        for manner in ["", "Any", "sets", None, True, 0, ["any"], ("any",), {"any": 1}, b"any", Store("any", 1, {})]:
            self.assertIs(raised(BadManner, Log, manner).manner, manner)

    def test_bad_path(self):
        for manner, more in [("any", ["A", "aB"]), ("matched", ["1a"]), ("turned", ["1a"])]:
            log = Log(manner)
            log.keep("a")
            log.change("a")
            for path in NO_PATHS + more:
                self.assertIs(raised(BadPath, log.keep, path).path, path)
                self.assertIs(raised(BadPath, log.tells, path).path, path)
                self.assertIs(raised(BadPath, log.tells, path, "x").path, path)
                self.assertIs(raised(BadPath, log.anew, ["a", path, None]).path, path)
            for wishes in NO_LISTS + ["", "a", "ab"]:
                self.assertIs(raised(BadPath, log.anew, wishes).path, wishes)
            self.assertEqual((log.kept(), log.now()), ([("a", 0)], 1))

    def test_bad_letter(self):
        for manner in MANNERS:
            log = Log(manner)
            for letter in NO_LETTERS:
                self.assertIs(raised(BadLetter, log.change, letter).letter, letter)
            self.assertEqual((log.now(), log.undo()), (0, False))

    def test_bad_moment(self):
        for manner in MANNERS:
            log = Log(manner)
            for moment in [True, False, -1, 1, 10 ** 20, "0", "", [0], (), {}, 0.0]:
                self.assertIs(raised(BadMoment, log.tells, "a", moment).moment, moment)
            log.change("a")
            self.assertIs(log.tells("a", 1), False)
            for moment in [True, False, 2, -1, -2]:
                self.assertIs(raised(BadMoment, log.tells, "a", moment).moment, moment)
            log.undo()
            self.assertEqual(raised(BadMoment, log.tells, "a", 1).moment, 1)

    def test_full(self):
        for manner in MANNERS:
            log = Log(manner)
            for number in range(8):
                log.keep("a")
            for _ in range(2):
                self.assertIsInstance(raised(FullDesk, log.keep, "b"), FullDesk)
            for path in NO_PATHS:
                raised(BadPath, log.keep, path)
            for number in range(12):
                log.change("b")
            for _ in range(2):
                raised(FullDesk, log.change, "a")
            for letter in NO_LETTERS:
                raised(BadLetter, log.change, letter)
            self.assertEqual((log.kept(), log.now()), ([("a", 0)] * 8, 12))
            self.assertIs(log.undo(), True)
            self.assertEqual(log.now(), 11)
            raised(FullDesk, log.keep, "a")
            log.change("a")
            self.assertIs(log.tells("a"), False)
            self.assertIs(log.tells("a", 11), True)
            for _ in range(13):
                log.undo()
            log.keep("b")
            self.assertEqual((log.kept(), log.now()), ([("a", 0)] * 7 + [("b", 0)], 0))


if __name__ == "__main__":
    unittest.main()
