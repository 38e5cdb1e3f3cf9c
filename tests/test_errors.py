"""Points [34] and [4]: the errors and what they hold."""

import unittest

from toldpaths import errors
from toldpaths.errors import PathError
from toldpaths.stores import Store

PARAMETERS = {
    "BadManner": "manner", "BadPath": "path", "BadPlace": "place", "BadMany": "many",
    "BadLink": "letter", "BadKind": "kind", "BadText": "line", "BadKept": "index",
    "BadIndex": "index", "BadPlan": "plan", "BadAnswers": "index", "BadBook": "book",
    "BadMachine": "machine", "BadNumber": "number", "FullDesk": None, "BadReading": "reading",
    "IsTold": "path", "BadLetter": "letter", "BadGroup": "group", "BadFact": "index",
    "HasStore": None, "NoStore": None, "BadThing": "thing", "BadMoment": "moment",
    "BadHand": "index", "BadPiece": "index",
}


def some_objects():
    return [None, True, 0, -3, "", "ab", [], [1, ["a"]], (), (1, [2]), {}, {"a": [(0, 1)]},
            Store("any", 1, {}), PathError(), 2 ** 70]


class Errors(unittest.TestCase):
    def test_path_error(self):
        self.assertEqual(PathError.__bases__, (ValueError,))
        self.assertIsInstance(PathError(), ValueError)
        with self.assertRaises(TypeError):
            PathError("x")

    def test_all_are_direct_subclasses(self):
        found = {name for name, value in vars(errors).items() if isinstance(value, type)}
        self.assertEqual(found, {"PathError", *PARAMETERS})
        for name in PARAMETERS:
            self.assertEqual(getattr(errors, name).__bases__, (PathError,), name)

    def test_by_place_and_by_name(self):
        for name, parameter in PARAMETERS.items():
            made = getattr(errors, name)
            if parameter is None:
                self.assertIsInstance(made(), PathError)
                with self.assertRaises(TypeError):
                    made(1)
                continue
            for thing in some_objects():
                self.assertIs(getattr(made(thing), parameter), thing, name)
                self.assertIs(getattr(made(**{parameter: thing}), parameter), thing, name)
            with self.assertRaises(TypeError):
                made()
            with self.assertRaises(TypeError):
                made(1, 2)

    def test_the_very_object_behind_a_change(self):
        for name, parameter in PARAMETERS.items():
            if parameter is None:
                continue
            row = [1]
            table = {"a": [2]}
            first = getattr(errors, name)(row)
            second = getattr(errors, name)(**{parameter: table})
            row.append(3)
            table["a"].append(4)
            self.assertIs(getattr(first, parameter), row)
            self.assertEqual(getattr(first, parameter), [1, 3])
            self.assertIs(getattr(second, parameter), table)
            self.assertEqual(getattr(second, parameter), {"a": [2, 4]})

    def test_raised_and_caught(self):
        for name, parameter in PARAMETERS.items():
            made = getattr(errors, name)
            told = [] if parameter is None else [[name]]
            with self.assertRaises(PathError) as caught:
                raise made(*told)
            self.assertIs(type(caught.exception), made)
            if parameter is not None:
                self.assertIs(getattr(caught.exception, parameter), told[0])


if __name__ == "__main__":
    unittest.main()
