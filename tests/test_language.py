"""The package keeps to the main rules of LANGUAGE.md that a reader may overlook."""

import ast
import builtins
import os
import unittest

FOLDER = os.path.join(os.path.dirname(os.path.dirname(os.path.abspath(__file__))), "loopcuts")
LIBRARY = {"heapq": {"heappush", "heappop", "heapify", "heapreplace", "heappushpop"},
           "math": {"gcd", "lcm", "isqrt", "comb", "perm", "factorial"},
           "itertools": {"product", "combinations", "permutations"}}
ALLOWED = set("""len range enumerate zip min max sum abs sorted reversed int str bool bytes list tuple dict set
    frozenset isinstance ord repr any all divmod map iter next super property staticmethod classmethod object
    Exception ValueError TypeError KeyError IndexError LookupError ZeroDivisionError ArithmeticError
    OverflowError RuntimeError NotImplementedError AttributeError StopIteration NotImplemented""".split())
BARRED = {"type", "typing", "enum", "Enum", "dataclass", "namedtuple", "overload", "contextmanager",
          "register", "open", "input", "law"}
STATEMENTS = (ast.FunctionDef, ast.ClassDef, ast.Assign, ast.ImportFrom, ast.Expr)


def names_of_files():
    return sorted([name for name in os.listdir(FOLDER) if name != "__pycache__"])


def text_of(name):
    with open(os.path.join(FOLDER, name), "rb") as file:
        return file.read()


def trees():
    return [(name, ast.parse(text_of(name))) for name in names_of_files()]


class Files(unittest.TestCase):

    def test_the_folder_contains_python_files_only(self):
        self.assertIn("__init__.py", names_of_files())
        for name in names_of_files():
            self.assertRegex(name, r"\A(__init__|[a-z][a-z0-9_]*)\.py\Z")

    def test_sizes_and_characters(self):
        for name in names_of_files():
            text = text_of(name)
            self.assertTrue(all([byte == 10 or 32 <= byte <= 126 for byte in text]), name)
            lines = text.split(b"\n")
            self.assertLessEqual(len(lines), 400, name)
            self.assertLessEqual(max([len(line) for line in lines]), 120, name)

    def test_functions_are_small(self):
        for name, tree in trees():
            for node in ast.walk(tree):
                if isinstance(node, ast.FunctionDef):
                    self.assertLessEqual(node.end_lineno - node.lineno, 39, (name, node.name))


class Rules(unittest.TestCase):

    def test_imports(self):
        for name, tree in trees():
            for node in ast.walk(tree):
                self.assertNotIsInstance(node, ast.Import, name)
                if isinstance(node, ast.ImportFrom):
                    self.assertIn(node, tree.body, name)
                    self.check_import(name, node)

    def check_import(self, name, node):
        told = {alias.name for alias in node.names}
        self.assertEqual(node.level, 0, name)
        self.assertEqual({alias.asname for alias in node.names}, {None}, name)
        if node.module in LIBRARY:
            self.assertLessEqual(told, LIBRARY[node.module], name)
        else:
            package, file = node.module.split(".")
            self.assertEqual(package, "loopcuts", name)
            self.assertLessEqual(told, self.defined(file + ".py"), name)

    def defined(self, name):
        names = set()
        for node in ast.parse(text_of(name)).body:
            if isinstance(node, (ast.FunctionDef, ast.ClassDef)):
                names.add(node.name)
            if isinstance(node, ast.Assign):
                names.add(node.targets[0].id)
        return names

    def test_module_level(self):
        for name, tree in trees():
            for node in tree.body:
                self.assertIsInstance(node, STATEMENTS, name)
                if isinstance(node, ast.Expr):
                    self.assertIsInstance(node.value, ast.Constant, name)

    def test_names(self):
        for name, tree in trees():
            for node in ast.walk(tree):
                if isinstance(node, ast.Name) and isinstance(node.ctx, ast.Load) and hasattr(builtins, node.id):
                    self.assertIn(node.id, ALLOWED, name)
                if isinstance(node, ast.Name):
                    self.assertFalse(isinstance(node.ctx, ast.Store) and hasattr(builtins, node.id), (name, node.id))
                    self.assertNotIn(node.id, BARRED, name)
                if isinstance(node, ast.arg):
                    self.assertFalse(hasattr(builtins, node.arg), (name, node.arg))

    def test_no_floats_no_divisions_and_no_percent_signs(self):
        for name, tree in trees():
            for node in ast.walk(tree):
                self.assertNotIsInstance(node, (ast.Div, ast.AsyncFunctionDef, ast.Global, ast.Await), name)
                if isinstance(node, ast.Constant):
                    self.assertNotIsInstance(node.value, (float, complex), name)
                    self.assertFalse(isinstance(node.value, str) and "%" in node.value, name)
