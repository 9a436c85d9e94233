import ast
import pathlib
import unittest

import wheelrow

FOLDER = pathlib.Path(wheelrow.__file__).parent
FILES = sorted(FOLDER.glob("*.py"))
OUTWARD_NAMES = {"open", "input", "print", "exec", "eval", "compile", "breakpoint", "id", "hash", "globals", "vars"}


class NothingFromOutsideTest(unittest.TestCase):
    """No clock, chance or file: those are reached through an import or through a few names of Python's own."""

    def trees(self):
        return [(file.name, ast.parse(file.read_text(encoding="utf-8"))) for file in FILES]

    def test_all_files_are_looked_at(self):
        names = {file.name for file in FILES}
        self.assertLessEqual({"errors.py", "answers.py", "rests.py", "parts.py", "sums.py", "texts.py"}, names)

    def test_only_the_package_itself_is_imported(self):
        for name, tree in self.trees():
            for node in ast.walk(tree):
                self.assertNotIsInstance(node, ast.Import, name)
                if isinstance(node, ast.ImportFrom):
                    self.assertEqual(node.module.split(".")[0], "wheelrow", name)

    def test_no_name_that_reaches_out(self):
        for name, tree in self.trees():
            used = {node.id for node in ast.walk(tree) if isinstance(node, ast.Name)}
            self.assertEqual(used & OUTWARD_NAMES, set(), name)
            self.assertEqual({word for word in used if word.startswith("__")}, set(), name)
