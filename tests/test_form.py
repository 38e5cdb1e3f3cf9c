"""The package's form: what stands where, and the sizes of files and functions."""

import ast
import pathlib
import unittest

PACKAGE = pathlib.Path(__file__).resolve().parent.parent / "toldpaths"

# What the interface lists: functions and classes with their parameters, by files.
FUNCTIONS = {
    "paths.py": {"is_path": ["manner", "thing"], "steps": ["path"], "marks": ["path"], "piece": ["path", "i", "j"],
                 "joined": ["one", "other"], "back": ["path"], "reduced": ["path"], "tree": ["path"]},
}
METHODS = {
    "stores.py": {"Store": {"__init__": ["self", "manner", "many", "links", "kinds"], "links": ["self"],
                            "kinds": ["self"], "__eq__": ["self", "other"], "answer": ["self", "path"],
                            "text": ["self"], "of_text": ["text"]}},
}


def parsed(name):
    return ast.parse((PACKAGE / name).read_text(encoding="utf-8"))


def parameters(nodes):
    return {node.name: [a.arg for a in node.args.args] for node in nodes if isinstance(node, ast.FunctionDef)}


class Form(unittest.TestCase):
    def test_functions_stand_in_their_files(self):
        for name, wanted in FUNCTIONS.items():
            found = parameters(parsed(name).body)
            for function, told in wanted.items():
                self.assertEqual(found.get(function), told, function)

    def test_methods_stand_in_their_classes(self):
        for name, classes in METHODS.items():
            bodies = {node.name: node.body for node in parsed(name).body if isinstance(node, ast.ClassDef)}
            for owner, wanted in classes.items():
                found = parameters(bodies[owner])
                for method, told in wanted.items():
                    self.assertEqual(found.get(method), told, method)

    def test_sizes_and_signs(self):
        files = [path for path in PACKAGE.rglob("*") if "__pycache__" not in path.parts]
        for path in files:
            self.assertEqual(path.suffix, ".py")
            text = path.read_bytes().decode("ascii")
            lines = text.split("\n")
            self.assertLessEqual(len(lines), 399, path.name)
            self.assertLessEqual(max(len(line) for line in lines), 120, path.name)
            self.assertTrue(all(" " <= sign <= "~" for line in lines for sign in line), path.name)
            for node in ast.walk(ast.parse(text)):
                if isinstance(node, ast.FunctionDef):
                    self.assertLessEqual(node.end_lineno - node.lineno + 1, 40, node.name)

    def test_imports_are_own(self):
        for path in PACKAGE.glob("*.py"):
            for node in ast.walk(parsed(path.name)):
                self.assertNotIsInstance(node, ast.Import)
                if isinstance(node, ast.ImportFrom):
                    self.assertEqual(node.level, 0)
                    self.assertTrue(node.module.startswith("toldpaths."), node.module)


if __name__ == "__main__":
    unittest.main()
