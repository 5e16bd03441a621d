"""What can be counted of the language of the package: its files, their sizes and characters."""

import ast
import functools
import pathlib
import re
import unittest

ROOT = pathlib.Path(__file__).resolve().parent.parent
PACKAGE = ROOT / "mendbooks"
LIBRARY = {"heapq", "math", "itertools", "collections"}


def entries():
    """All that stands in the package, but what Python itself writes there."""
    return [path for path in sorted(PACKAGE.rglob("*")) if "__pycache__" not in path.parts]


def files():
    return [path for path in entries() if path.is_file()]


@functools.cache
def trees():
    return [(path, ast.parse(path.read_text(encoding="utf-8"))) for path in files()]


class Files(unittest.TestCase):

    def test_only_plain_python_files(self):
        for path in entries():
            if path.is_file():
                self.assertRegex(path.name, r"^(__init__|__main__|[a-z][a-z0-9_]*)\.py$")
            else:
                self.assertRegex(path.name, r"^[a-z][a-z0-9_]*$")
                self.assertFalse(path.with_suffix(".py").exists(), path)

    def test_each_folder_is_a_package(self):
        for path in [PACKAGE, *entries()]:
            if path.is_dir():
                self.assertTrue((path / "__init__.py").is_file(), path)

    def test_number_of_files(self):
        self.assertTrue(1 <= len(files()) <= 100)

    def test_size_of_files(self):
        for path in files():
            self.assertLessEqual(len(path.read_text(encoding="utf-8").splitlines()), 399, path)

    def test_lines(self):
        for path in files():
            for number, line in enumerate(path.read_text(encoding="utf-8").split("\n"), 1):
                self.assertLessEqual(len(line), 120, f"{path}:{number}")

    def test_characters(self):
        for path in files():
            for number, line in enumerate(path.read_bytes().split(b"\n"), 1):
                self.assertTrue(all(32 <= sign <= 126 for sign in line), f"{path}:{number}")

    def test_strings(self):
        many = sum(len(node.value) for _, tree in trees() for node in ast.walk(tree)
                   if isinstance(node, ast.Constant) and isinstance(node.value, str))
        self.assertLessEqual(many, 2000000)


class Code(unittest.TestCase):

    def test_size_of_functions(self):
        for path, tree in trees():
            for node in ast.walk(tree):
                if isinstance(node, ast.FunctionDef):
                    first = min([node.lineno, *(word.lineno for word in node.decorator_list)])
                    self.assertLessEqual(node.end_lineno - first + 1, 40, f"{path}:{node.lineno}")

    def test_imports_are_own_ones(self):
        for path, tree in trees():
            for node in ast.walk(tree):
                self.assertNotIsInstance(node, ast.Import, path)
                if isinstance(node, ast.ImportFrom):
                    self.assertEqual(node.level, 0, path)
                    self.assertTrue(node.module in LIBRARY or node.module.startswith("mendbooks."), path)
                    self.assertFalse([name.name for name in node.names if name.name == "*" or name.asname], path)

    def test_each_import_is_used(self):
        for path, tree in trees():
            text = path.read_text(encoding="utf-8")
            for node in ast.walk(tree):
                for name in node.names if isinstance(node, ast.ImportFrom) else ():
                    self.assertGreater(len(re.findall(rf"\b{name.name}\b", text)), 1, (path, name.name))

    def test_module_level(self):
        allowed = (ast.ImportFrom, ast.FunctionDef, ast.ClassDef, ast.Assign, ast.Expr)
        for path, tree in trees():
            for node in tree.body:
                self.assertIsInstance(node, allowed, f"{path}:{node.lineno}")
                if isinstance(node, ast.Expr):
                    self.assertIsInstance(node.value, ast.Constant, f"{path}:{node.lineno}")

    def test_no_annotations_and_no_floats(self):
        for path, tree in trees():
            for node in ast.walk(tree):
                self.assertNotIsInstance(node, ast.AnnAssign, path)
                self.assertFalse(isinstance(node, ast.Constant) and isinstance(node.value, float), path)
                self.assertFalse(isinstance(node, ast.BinOp) and isinstance(node.op, ast.Div), path)
