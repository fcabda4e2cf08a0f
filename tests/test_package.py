"""What holds of every module: the interface's names, and what the code may use."""

import ast
import builtins
import importlib
import inspect
import pathlib
import unittest

FOLDER = pathlib.Path(__file__).resolve().parent.parent / "whoholds"
LIBRARY = ("heapq", "math", "itertools", "collections")
# The names of each module, with those of their arguments.
INTERFACE = {
    "whoholds.errors": {"HoldError": None, "NoRow": None, "Round": None, "TooMany": "most"},
    "whoholds.programs": {
        "is_word": "thing", "is_row": "thing", "is_program": "thing", "names_of": "program", "boxes_of": "program",
        "slots_of": "program",
    },
    "whoholds.runs": {"run": "program numbers"},
    "whoholds.tables": {"least": "program", "is_closed": "program table"},
    "whoholds.chains": {"is_chain": "program holding thing", "ranks": "program", "shown": "program holding"},
    "whoholds.likeness": {"classes": "program", "are_alike": "program one other", "boxes_alike": "program name"},
    "whoholds.asked": {"are_enough": "program name numbers", "asked": "program name"},
    "whoholds.rooms": {"together": "house", "apart": "house", "listed": "house room name"},
    "whoholds.kept": {"Kept": ""},
    "whoholds.folded": {"rings": "program", "folded": "program"},
}
METHODS_OF_KEPT = {"put_in": "self row", "take_out": "self row", "rows": "self", "lists": "self name"}
# What the package uses of Python; more of it may be allowed, and is then put in here.
BUILTINS = (
    "ValueError", "all", "bool", "dict", "enumerate", "int", "isinstance", "len", "list", "range", "reversed",
    "set", "sorted", "str", "sum", "super", "tuple", "zip",
)
METHODS = ("__init__", "append", "extend", "get", "items", "pop", "setdefault", "update", "values")
KEPT_METHODS = ("_stand",)
STATEMENTS = (
    ast.FunctionDef, ast.ClassDef, ast.ImportFrom, ast.Assign, ast.AugAssign, ast.Expr, ast.If, ast.While, ast.For,
    ast.Return, ast.Raise,
)
BARRED = (
    ast.Global, ast.Nonlocal, ast.Div, ast.Mod, ast.Pow, ast.Set, ast.NamedExpr, ast.Yield, ast.YieldFrom,
    ast.GeneratorExp, ast.Await, ast.Starred, ast.AsyncFunctionDef,
)


def sources():
    """The path and the text of each file of the package."""
    return [(path, path.read_text(encoding="ascii")) for path in sorted(FOLDER.rglob("*.py"))]


class Package(unittest.TestCase):
    def test_the_names_of_the_interface(self):
        for module, names in INTERFACE.items():
            for name, arguments in names.items():
                found = getattr(importlib.import_module(module), name)
                self.assertEqual(found.__module__, module, name)
                if arguments is not None:
                    self.assertEqual(list(inspect.signature(found).parameters), arguments.split(), name)

    def test_the_methods_of_kept_are_its_own(self):
        found = importlib.import_module("whoholds.kept").Kept
        for name, arguments in METHODS_OF_KEPT.items():
            self.assertIn(name, vars(found))
            self.assertEqual(list(inspect.signature(vars(found)[name]).parameters), arguments.split(), name)

    def test_only_sources_stand_in_the_folder(self):
        for path in FOLDER.rglob("*"):
            if "__pycache__" not in path.parts:
                self.assertEqual(path.suffix, ".py", path)

    def test_nothing_from_outside_is_imported(self):
        for path, text in sources():
            for node in ast.walk(ast.parse(text)):
                self.assertNotIsInstance(node, ast.Import, path)
                if isinstance(node, ast.ImportFrom):
                    self.assertEqual(node.level, 0, path)
                    self.assertTrue(node.module.startswith("whoholds.") or node.module in LIBRARY, node.module)

    def test_sizes_and_signs(self):
        for path, text in sources():
            self.assertLess(len(text.splitlines()), 400, path)
            for line in text.split("\n"):
                self.assertLessEqual(len(line), 120, path)
                self.assertTrue(all(" " <= sign <= "~" for sign in line), (path, line))
            for node in ast.walk(ast.parse(text)):
                if isinstance(node, ast.FunctionDef):
                    self.assertLessEqual(node.end_lineno - node.lineno + 1, 40, (path, node.name))

    def test_no_other_parts_of_the_language(self):
        for path, text in sources():
            for node in ast.walk(ast.parse(text)):
                self.assertNotIsInstance(node, BARRED, (path, ast.dump(node)))
                if isinstance(node, ast.stmt):
                    self.assertIsInstance(node, STATEMENTS, (path, node.lineno))
                if isinstance(node, ast.FunctionDef):
                    self.assertEqual(node.decorator_list, [], (path, node.name))
                if isinstance(node, ast.Name) and hasattr(builtins, node.id):
                    self.assertIsInstance(node.ctx, ast.Load, (path, node.lineno))
                    self.assertIn(node.id, BUILTINS, (path, node.lineno))
                if isinstance(node, ast.Call) and isinstance(node.func, ast.Attribute):
                    self.assertIn(node.func.attr, METHODS + KEPT_METHODS, (path, node.lineno))
                if isinstance(node, ast.Compare) and isinstance(node.ops[0], (ast.Is, ast.IsNot)):
                    self.assertEqual(ast.unparse(node.comparators[0]), "None", (path, node.lineno))

    def test_no_two_files_import_from_each_other(self):
        imports = {}
        for path, text in sources():
            found = [node.module for node in ast.walk(ast.parse(text)) if isinstance(node, ast.ImportFrom)]
            imports[f"whoholds.{path.stem}"] = found
        done = []
        while len(done) < len(imports):
            ready = [name for name in imports if name not in done and set(imports[name]) <= {*done, *LIBRARY}]
            self.assertNotEqual(ready, [])
            done += ready
