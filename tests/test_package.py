"""What holds of every module: the interface's names, and what the code may use."""

import ast
import builtins
import importlib
import pathlib
import unittest

FOLDER = pathlib.Path(__file__).resolve().parent.parent / "whoholds"
LIBRARY = ("heapq", "math", "itertools", "collections")
INTERFACE = {
    "whoholds.errors": ("HoldError", "NoRow", "Round", "TooMany"),
    "whoholds.programs": ("is_word", "is_row", "is_program", "names_of", "boxes_of", "slots_of"),
    "whoholds.runs": ("run",),
    "whoholds.tables": ("least", "is_closed"),
    "whoholds.chains": ("is_chain", "ranks", "shown"),
    "whoholds.likeness": ("classes", "are_alike", "boxes_alike"),
}
# What the package uses of Python; more of it may be allowed, and is then put in here.
BUILTINS = (
    "ValueError", "all", "bool", "dict", "enumerate", "int", "isinstance", "len", "list", "range", "reversed",
    "set", "sorted", "str", "super", "tuple",
)
METHODS = ("__init__", "append", "extend", "get", "items", "pop", "setdefault", "values")
STATEMENTS = (
    ast.FunctionDef, ast.ClassDef, ast.ImportFrom, ast.Assign, ast.AugAssign, ast.Expr, ast.If, ast.While, ast.For,
    ast.Return, ast.Raise,
)
BARRED = (
    ast.Global, ast.Nonlocal, ast.Lambda, ast.Div, ast.Mod, ast.Pow, ast.Set, ast.NamedExpr, ast.Yield, ast.YieldFrom,
    ast.GeneratorExp, ast.Await, ast.Starred, ast.AsyncFunctionDef,
)


def sources():
    """The path and the text of each file of the package."""
    return [(path, path.read_text(encoding="ascii")) for path in sorted(FOLDER.rglob("*.py"))]


class Package(unittest.TestCase):
    def test_the_names_of_the_interface(self):
        for module, names in INTERFACE.items():
            for name in names:
                self.assertEqual(getattr(importlib.import_module(module), name).__module__, module, name)

    def test_only_sources_stand_in_the_folder(self):
        for path in FOLDER.rglob("*"):
            if "__pycache__" not in path.parts:
                self.assertEqual(path.suffix, ".py", path)

    def test_nothing_from_outside_is_imported(self):
        for path, text in sources():
            for node in ast.walk(ast.parse(text)):
                self.assertNotIsInstance(node, ast.Import, path)
                if isinstance(node, ast.ImportFrom):
                    self.assertEqual(node.level, 0, path)
                    self.assertTrue(node.module.startswith("whoholds.") or node.module in LIBRARY, node.module)

    def test_sizes_and_signs(self):
        for path, text in sources():
            self.assertLess(len(text.splitlines()), 400, path)
            for line in text.split("\n"):
                self.assertLessEqual(len(line), 120, path)
                self.assertTrue(all(" " <= sign <= "~" for sign in line), (path, line))
            for node in ast.walk(ast.parse(text)):
                if isinstance(node, ast.FunctionDef):
                    self.assertLessEqual(node.end_lineno - node.lineno + 1, 40, (path, node.name))

    def test_no_other_parts_of_the_language(self):
        for path, text in sources():
            for node in ast.walk(ast.parse(text)):
                self.assertNotIsInstance(node, BARRED, (path, ast.dump(node)))
                if isinstance(node, ast.stmt):
                    self.assertIsInstance(node, STATEMENTS, (path, node.lineno))
                if isinstance(node, ast.FunctionDef):
                    self.assertEqual(node.decorator_list, [], (path, node.name))
                if isinstance(node, ast.Name) and hasattr(builtins, node.id):
                    self.assertIsInstance(node.ctx, ast.Load, (path, node.lineno))
                    self.assertIn(node.id, BUILTINS, (path, node.lineno))
                if isinstance(node, ast.Call) and isinstance(node.func, ast.Attribute):
                    self.assertIn(node.func.attr, METHODS, (path, node.lineno))
                if isinstance(node, ast.Compare) and isinstance(node.ops[0], (ast.Is, ast.IsNot)):
                    self.assertEqual(ast.unparse(node.comparators[0]), "None", (path, node.lineno))

    def test_no_two_files_import_from_each_other(self):
        imports = {}
        for path, text in sources():
            found = [node.module for node in ast.walk(ast.parse(text)) if isinstance(node, ast.ImportFrom)]
            imports[f"whoholds.{path.stem}"] = found
        done = []
        while len(done) < len(imports):
            ready = [name for name in imports if name not in done and set(imports[name]) <= {*done, *LIBRARY}]
            self.assertNotEqual(ready, [])
            done += ready
