"""A few rules of LANGUAGE.md that can be read off the files; the others are for the reader."""

import ast
import builtins
import pathlib
import unittest

FOLDER = pathlib.Path(__file__).resolve().parent.parent / "partfirsts"
LIBRARY = ["collections", "heapq", "itertools", "math"]
BUILTINS = """len range enumerate zip map min max sum abs sorted reversed int str bool bytes list tuple dict set
frozenset isinstance ord repr any all divmod pow getattr hasattr setattr iter next super property staticmethod
classmethod object Exception ValueError TypeError KeyError IndexError LookupError ZeroDivisionError ArithmeticError
OverflowError RuntimeError NotImplementedError AttributeError StopIteration NotImplemented""".split()
BARRED = (
    ast.Global, ast.AsyncFunctionDef, ast.AsyncFor, ast.AsyncWith, ast.Await, ast.Div, ast.MatMult, ast.Import,
)
FUNCTIONS = (ast.FunctionDef, ast.Lambda)


def package_files():
    return sorted(path for path in FOLDER.rglob("*") if path.is_file() and "__pycache__" not in path.parts)


def trees():
    return [(path, ast.parse(path.read_text(encoding="utf-8"))) for path in package_files()]


def bound_names(tree):
    """The names that are bound anywhere in a file, methods and attributes apart."""
    methods = [item for node in ast.walk(tree) if isinstance(node, ast.ClassDef) for item in node.body]
    for node in ast.walk(tree):
        if isinstance(node, ast.Name) and isinstance(node.ctx, ast.Store):
            yield node.id
        elif isinstance(node, ast.arg):
            yield node.arg
        elif isinstance(node, (ast.FunctionDef, ast.ClassDef)) and node not in methods:
            yield node.name
        elif isinstance(node, ast.ExceptHandler) and node.name:
            yield node.name


def top_names(tree):
    names = []
    for node in tree.body:
        if isinstance(node, (ast.FunctionDef, ast.ClassDef)):
            names.append(node.name)
        elif isinstance(node, ast.Assign):
            names.extend(target.id for target in node.targets)
        elif isinstance(node, ast.ImportFrom):
            names.extend(item.name for item in node.names)
    return names


class Rules(unittest.TestCase):
    def test_files(self):
        self.assertTrue((FOLDER / "__init__.py").is_file())
        for path in package_files():
            self.assertRegex(path.name, r"^[a-z_]+\.py$")
            self.assertEqual(path.parent, FOLDER)

    def test_characters_and_sizes(self):
        for path in package_files():
            text = path.read_bytes().decode("ascii")
            self.assertTrue(all(sign == "\n" or " " <= sign <= "~" for sign in text), path)
            lines = text.split("\n")
            self.assertLessEqual(len(lines), 400, path)
            self.assertLessEqual(max(len(line) for line in lines), 120, path)
            self.assertFalse([line for line in lines if line != line.rstrip()], path)

    def test_functions_are_small(self):
        for path, tree in trees():
            for node in ast.walk(tree):
                if isinstance(node, ast.FunctionDef):
                    self.assertLessEqual(node.end_lineno - node.lineno + 1, 40, (path, node.name))

    def test_imports(self):
        for path, tree in trees():
            inner = [node for node in ast.walk(tree) if isinstance(node, ast.ImportFrom) and node not in tree.body]
            self.assertEqual(inner, [], path)
            for node in tree.body:
                if isinstance(node, ast.ImportFrom) and node.module not in LIBRARY:
                    self.assertEqual(node.level, 0)
                    package, name = node.module.split(".")
                    self.assertEqual(package, "partfirsts")
                    home = ast.parse((FOLDER / f"{name}.py").read_text(encoding="utf-8"))
                    defined = top_names(ast.Module([n for n in home.body if not isinstance(n, ast.ImportFrom)], []))
                    for item in node.names:
                        self.assertIn(item.name, defined)
                        self.assertIsNone(item.asname)

    def test_each_top_name_is_bound_once(self):
        for path, tree in trees():
            names = top_names(tree)
            self.assertEqual(len(names), len(set(names)), path)
            inner = [node for node in ast.walk(tree) if isinstance(node, FUNCTIONS)]
            inside = [name for node in inner for name in bound_names(node) if node not in tree.body]
            self.assertFalse(set(inside) & {n.name for n in tree.body if isinstance(n, ast.ClassDef)}, path)

    def test_builtins(self):
        for path, tree in trees():
            for node in ast.walk(tree):
                # The examples of the README give Python's builtins a `_`.
                if isinstance(node, ast.Name) and hasattr(builtins, node.id) and node.id != "_":
                    self.assertIn(node.id, BUILTINS, path)
            for name in bound_names(tree):
                self.assertFalse(hasattr(builtins, name) and name != "_", (path, name))

    def test_syntax(self):
        for path, tree in trees():
            for node in ast.walk(tree):
                self.assertNotIsInstance(node, BARRED, path)
                if isinstance(node, ast.Constant):
                    self.assertNotIsInstance(node.value, (float, complex), path)
                    self.assertFalse(isinstance(node.value, str) and "%" in node.value, path)
                if isinstance(node, ast.Compare):
                    self.check_is(node, path)

    def test_a_bare_underscore_is_never_read(self):
        for path, tree in trees():
            names = [node for node in ast.walk(tree) if isinstance(node, ast.Name) and node.id == "_"]
            self.assertTrue(all(isinstance(node.ctx, ast.Store) for node in names), path)

    def check_is(self, node, path):
        for operator, other in zip(node.ops, node.comparators):
            if isinstance(operator, (ast.Is, ast.IsNot)):
                self.assertTrue(isinstance(other, ast.Constant) and other.value in (None, True, False), path)
