"""What holds of every module: the interface's names, and what the code may use."""

import ast
import importlib
import pathlib
import unittest

FOLDER = pathlib.Path(__file__).resolve().parent.parent / "whoholds"
LIBRARY = ("heapq", "math", "itertools", "collections")
INTERFACE = {
    "whoholds.errors": ("HoldError", "NoRow", "Round", "TooMany"),
    "whoholds.programs": ("is_word", "is_row", "is_program", "names_of", "boxes_of", "slots_of"),
    "whoholds.runs": ("run",),
}


def sources():
    """The path and the text of each file of the package."""
    return [(path, path.read_text(encoding="ascii")) for path in sorted(FOLDER.rglob("*.py"))]


class Package(unittest.TestCase):
    def test_the_names_of_the_interface(self):
        for module, names in INTERFACE.items():
            for name in names:
                self.assertEqual(getattr(importlib.import_module(module), name).__module__, module, name)

    def test_only_sources_stand_in_the_folder(self):
        for path in FOLDER.rglob("*"):
            if "__pycache__" not in path.parts:
                self.assertEqual(path.suffix, ".py", path)

    def test_nothing_from_outside_is_imported(self):
        for path, text in sources():
            for node in ast.walk(ast.parse(text)):
                self.assertNotIsInstance(node, ast.Import, path)
                if isinstance(node, ast.ImportFrom):
                    self.assertEqual(node.level, 0, path)
                    self.assertTrue(node.module.startswith("whoholds.") or node.module in LIBRARY, node.module)

    def test_sizes_and_signs(self):
        for path, text in sources():
            self.assertLess(len(text.splitlines()), 400, path)
            for line in text.split("\n"):
                self.assertLessEqual(len(line), 120, path)
                self.assertTrue(all(" " <= sign <= "~" for sign in line), (path, line))
            for node in ast.walk(ast.parse(text)):
                if isinstance(node, ast.FunctionDef):
                    self.assertLessEqual(node.end_lineno - node.lineno + 1, 40, (path, node.name))
