"""The package's form: what stands where, and the sizes of files and functions."""

import ast
import builtins
import pathlib
import unittest

PACKAGE = pathlib.Path(__file__).resolve().parent.parent / "toldpaths"

# What the interface lists: functions and classes with their parameters, by files.
FUNCTIONS = {
    "paths.py": {"is_path": ["manner", "thing"], "steps": ["path"], "marks": ["path"], "piece": ["path", "i", "j"],
                 "joined": ["one", "other"], "back": ["path"], "reduced": ["path"], "tree": ["path"]},
    "plans.py": {"is_plan": ["book", "path", "thing"], "carried": ["book", "path", "plan", "answers", "kinds"]},
    "tells.py": {"is_told": ["book", "path"], "verdict": ["book", "path"],
                 "is_witness": ["book", "path", "one", "other"], "is_joined": ["book", "path"]},
    "machines.py": {"machine": ["book"]},
    "choices.py": {"tells_all": ["book", "other"], "needless": ["book"], "least": ["manner", "menu", "wishes"],
                   "greatest": ["manner", "menu", "secrets"], "touched": ["book", "indices", "path"],
                   "asks": ["book", "path"]},
    "weights.py": {"worth_carried": ["book", "path", "plan", "reading", "answers", "kinds"],
                   "worth_open": ["book", "path", "reading"], "is_worth_witness": ["book", "path", "one", "other"]},
    "hands.py": {"telling": ["manner", "hands", "path"], "is_safe": ["manner", "hands", "k", "secrets"],
                 "grants": ["manner", "hands", "k", "secrets", "path"]},
    "mixed.py": {"is_mixed": ["turned", "thing"], "form": ["turned", "path"]},
}
METHODS = {
    "stores.py": {"Store": {"__init__": ["self", "manner", "many", "links", "kinds"], "links": ["self"],
                            "kinds": ["self"], "__eq__": ["self", "other"], "answer": ["self", "path"],
                            "text": ["self"], "of_text": ["text"]}},
    "books.py": {"Book": {"__init__": ["self", "manner", "kept"], "kept": ["self"], "__len__": ["self"],
                          "__iter__": ["self"], "__eq__": ["self", "other"], "further": ["self", "paths"],
                          "without": ["self", "indices"]}},
    "machines.py": {"Machine": {"rows": ["self"], "__len__": ["self"], "__eq__": ["self", "other"],
                                "has": ["self", "path"], "count": ["self", "n"], "nth": ["self", "n", "i"],
                                "first_lacking": ["self", "other"], "both": ["self", "other"],
                                "either": ["self", "other"], "less": ["self", "other"],
                                "leads": ["self", "pieces"], "ends_along": ["self", "pieces"]}},
    "desks.py": {"Desk": {"__init__": ["self", "manner"], "keep": ["self", "path"], "tells": ["self", "path"],
                          "undo": ["self"], "now": ["self"]}},
    "groups.py": {"Group": {"__init__": ["self", "paths"], "has": ["self", "path"], "rows": ["self"],
                            "__len__": ["self"], "__eq__": ["self", "other"], "rank": ["self"],
                            "cosets": ["self", "letters"], "basis": ["self"], "both": ["self", "other"],
                            "joined": ["self", "other"], "turned_by": ["self", "path"], "power": ["self", "path"]}},
    "weights.py": {"Weights": {"__init__": ["self", "reading", "many", "links", "kinds"], "links": ["self"],
                               "kinds": ["self"], "__eq__": ["self", "other"], "answer": ["self", "path"]}},
    "opened.py": {"Opened": {"__init__": ["self", "manner", "facts"], "facts": ["self"], "things": ["self"],
                             "is_possible": ["self"], "clash": ["self"], "is_clash": ["self", "thing"],
                             "sure": ["self", "path"], "can_be": ["self", "path", "x", "y"], "freshest": ["self"]}},
    "logs.py": {"Log": {"__init__": ["self", "manner"], "keep": ["self", "path"], "change": ["self", "letter"],
                        "undo": ["self"], "now": ["self"], "kept": ["self"], "tells": ["self", "path", "moment"],
                        "anew": ["self", "wishes"]}},
    "mixed.py": {"MixedStore": {"__init__": ["self", "turned", "many", "links"], "links": ["self"],
                                "__eq__": ["self", "other"], "answer": ["self", "path"]}},
    "mixedbooks.py": {"MixedBook": {"__init__": ["self", "turned", "kept"], "kept": ["self"],
                                    "__eq__": ["self", "other"], "is_plan": ["self", "path", "thing"],
                                    "tells": ["self", "path"], "verdict": ["self", "path"],
                                    "is_witness": ["self", "path", "one", "other"],
                                    "carried": ["self", "path", "plan", "answers"], "needless": ["self"]}},
    "carriers.py": {"Carrier": {"__init__": ["self", "book", "asked"], "add": ["self", "index", "pair"],
                                "drop": ["self", "index", "pair"], "undo": ["self"], "answer": ["self", "n"],
                                "kept": ["self"]}},
}

# What the rules of the language let the package use of Python's own.
LIBRARY = {"heapq": {"heappush", "heappop"}, "math": {"gcd"}}
BUILTINS = set("""len range enumerate zip min max sum abs sorted reversed int str bool list tuple dict set isinstance
    ord repr any all divmod iter staticmethod ValueError""".split())
OWN_METHODS_OF_VALUES = set("""append clear copy count endswith extend find get index insert isalnum isalpha isdigit
    islower isspace isupper items join keys ljust lower lstrip partition pop remove replace reverse rfind rjust
    rpartition rsplit rstrip setdefault split splitlines startswith strip update upper values zfill bit_length
    swapcase __init__""".split())
BARRED = (ast.GeneratorExp, ast.Global, ast.Nonlocal, ast.Try, ast.With, ast.Yield, ast.YieldFrom, ast.Await,
          ast.AsyncFunctionDef, ast.AnnAssign, ast.NamedExpr, ast.Match, ast.Assert, ast.Div)


def parsed(name):
    return ast.parse((PACKAGE / name).read_text(encoding="utf-8"))


def parameters(nodes):
    return {node.name: [a.arg for a in node.args.args] for node in nodes if isinstance(node, ast.FunctionDef)}


class Form(unittest.TestCase):
    def test_functions_stand_in_their_files(self):
        for name, wanted in FUNCTIONS.items():
            found = parameters(parsed(name).body)
            for function, told in wanted.items():
                self.assertEqual(found.get(function), told, function)

    def test_methods_stand_in_their_classes(self):
        for name, classes in METHODS.items():
            bodies = {node.name: node.body for node in parsed(name).body if isinstance(node, ast.ClassDef)}
            for owner, wanted in classes.items():
                found = parameters(bodies[owner])
                for method, told in wanted.items():
                    self.assertEqual(found.get(method), told, method)

    def test_sizes_and_signs(self):
        files = [path for path in PACKAGE.rglob("*") if "__pycache__" not in path.parts]
        for path in files:
            self.assertEqual(path.suffix, ".py")
            text = path.read_bytes().decode("ascii")
            lines = text.split("\n")
            self.assertLessEqual(len(lines), 399, path.name)
            self.assertLessEqual(max(len(line) for line in lines), 120, path.name)
            self.assertTrue(all(" " <= sign <= "~" for line in lines for sign in line), path.name)
            for node in ast.walk(ast.parse(text)):
                if isinstance(node, ast.FunctionDef):
                    self.assertLessEqual(node.end_lineno - node.lineno + 1, 40, node.name)

    def test_imports(self):
        for path in PACKAGE.glob("*.py"):
            for node in ast.walk(parsed(path.name)):
                self.assertNotIsInstance(node, ast.Import)
                if isinstance(node, ast.ImportFrom):
                    self.assertEqual(node.level, 0)
                    names = {alias.name for alias in node.names}
                    if node.module in LIBRARY:
                        self.assertLessEqual(names, LIBRARY[node.module])
                        continue
                    self.assertTrue(node.module.startswith("toldpaths."), node.module)
                    behind = parsed(node.module.split(".")[1] + ".py").body
                    defined = {part.name for part in behind if isinstance(part, (ast.FunctionDef, ast.ClassDef))}
                    defined |= {part.targets[0].id for part in behind if isinstance(part, ast.Assign)}
                    self.assertLessEqual(names, defined, path.name)

    def test_no_files_import_from_each_other(self):
        ahead = {path.name: {node.module.split(".")[1] + ".py" for node in ast.walk(parsed(path.name))
                             if isinstance(node, ast.ImportFrom) and node.module.startswith("toldpaths.")}
                 for path in PACKAGE.glob("*.py")}
        while ahead:
            free = [name for name, needed in ahead.items() if not needed & set(ahead)]
            self.assertNotEqual(free, [], ahead)
            for name in free:
                del ahead[name]

    def test_names(self):
        for path in PACKAGE.glob("*.py"):
            whole = parsed(path.name)
            imported = {alias.name for node in ast.walk(whole) if isinstance(node, ast.ImportFrom) for alias in node.names}
            bound = imported | {node.name for node in whole.body if isinstance(node, ast.ClassDef)}
            local = [node.arg for node in ast.walk(whole) if isinstance(node, ast.arg)]
            local += [node.id for node in ast.walk(whole) if isinstance(node, ast.Name) and not isinstance(node.ctx, ast.Load)]
            functions = [node.name for node in whole.body if isinstance(node, ast.FunctionDef)]
            read = {node.id for node in ast.walk(whole) if isinstance(node, ast.Name)}
            self.assertLessEqual(imported, read, path.name)
            for name in local:
                self.assertNotIn(name, bound, path.name)
            for name in local + functions:
                self.assertFalse(hasattr(builtins, name), f"{path.name}: {name}")

    def test_what_is_used(self):
        methods = {part.name for path in PACKAGE.glob("*.py") for node in parsed(path.name).body
                   if isinstance(node, ast.ClassDef) for part in node.body if isinstance(part, ast.FunctionDef)}
        for path in PACKAGE.glob("*.py"):
            for node in ast.walk(parsed(path.name)):
                told = f"{path.name}:{getattr(node, 'lineno', 0)}"
                self.assertNotIsInstance(node, BARRED, told)
                if isinstance(node, ast.Name) and hasattr(builtins, node.id):
                    self.assertIn(node.id, BUILTINS, told)
                if isinstance(node, ast.Call) and isinstance(node.func, ast.Attribute):
                    self.assertIn(node.func.attr, OWN_METHODS_OF_VALUES | methods, told)
                if isinstance(node, ast.Compare):
                    for operator, other in zip(node.ops, node.comparators):
                        if isinstance(operator, (ast.Is, ast.IsNot)):
                            self.assertIsInstance(other, ast.Constant, told)
                if isinstance(node, ast.FunctionDef):
                    self.assertLessEqual({ast.unparse(part) for part in node.decorator_list}, {"staticmethod"}, told)


if __name__ == "__main__":
    unittest.main()
