"""The form of the package: those rules of the language subset that a short test can see."""

import ast
import os
import re
import unittest

FOLDER = os.path.join(os.path.dirname(os.path.dirname(os.path.abspath(__file__))), "castforms")
BUILTINS = """
    len range enumerate zip min max sum abs sorted reversed int str bool bytes list tuple dict set frozenset map
    isinstance ord repr any all divmod pow getattr hasattr setattr iter next super property staticmethod classmethod
    Exception ValueError TypeError KeyError IndexError LookupError ZeroDivisionError ArithmeticError OverflowError
    RuntimeError NotImplementedError AttributeError StopIteration NotImplemented
""".split()
ALLOWED_LIBRARY = ["heapq", "math", "itertools", "collections"]
BARRED_NODES = (ast.AsyncFunctionDef, ast.Await, ast.AsyncFor, ast.AsyncWith, ast.Div)
BARRED_WORDS = re.compile(
    r"\b(type(?!\()|typing|enum|Enum|namedtuple|dataclass|eval|exec|open|input|print|globals|vars)\b")


def files():
    return sorted(name for name in os.listdir(FOLDER) if name != "__pycache__")


def source(name):
    with open(os.path.join(FOLDER, name), encoding="utf-8") as held:
        return held.read()


def trees():
    return [(name, ast.parse(source(name))) for name in files()]


def without_docstrings(tree):
    """The tree again as text, so without comments, and without its docstrings."""
    for node in ast.walk(tree):
        if isinstance(node, (ast.Module, ast.ClassDef, ast.FunctionDef)) and ast.get_docstring(node) is not None:
            node.body = node.body[1:] or [ast.Pass()]
    return ast.unparse(tree)


class Form(unittest.TestCase):
    def test_files(self):
        self.assertIn("__init__.py", files())
        for name in files():
            self.assertRegex(name, r"\A[a-z_]+\.py\Z")

    def test_characters_and_sizes(self):
        for name in files():
            with self.subTest(name=name):
                text = source(name)
                self.assertRegex(text, r"\A[ -~\n]*\Z")
                self.assertLessEqual(len(text.splitlines()), 399)
                self.assertLessEqual(max(len(line) for line in text.splitlines()), 120)

    def test_sizes_of_functions(self):
        for name, tree in trees():
            for node in ast.walk(tree):
                if isinstance(node, ast.FunctionDef):
                    with self.subTest(name=name, function=node.name):
                        self.assertLessEqual(node.end_lineno - node.lineno + 1, 40)

    def test_imports(self):
        for name, tree in trees():
            for node in ast.walk(tree):
                self.assertNotIsInstance(node, ast.Import)
                if isinstance(node, ast.ImportFrom):
                    with self.subTest(name=name, module=node.module):
                        self.assertEqual(node.level, 0)
                        self.assertIn(node, tree.body)
                        self.assertIn(node.module.split(".")[0], ["castforms"] + ALLOWED_LIBRARY)
                        self.assertFalse(any(entry.asname or entry.name == "*" for entry in node.names))

    def test_module_level(self):
        allowed = (ast.ImportFrom, ast.FunctionDef, ast.ClassDef, ast.Assign, ast.Expr)
        for name, tree in trees():
            bound = []
            for node in tree.body:
                self.assertIsInstance(node, allowed)
                if isinstance(node, ast.Expr):
                    self.assertIsInstance(node.value, ast.Constant)
                if isinstance(node, ast.Assign):
                    bound.append(node.targets[0].id)
                    ast.literal_eval(node.value)
                if isinstance(node, (ast.FunctionDef, ast.ClassDef)):
                    bound.append(node.name)
                if isinstance(node, ast.ImportFrom):
                    bound.extend(entry.name for entry in node.names)
            with self.subTest(name=name):
                self.assertEqual(len(bound), len(set(bound)))

    def test_names_that_no_file_binds_are_allowed_builtins(self):
        for name, tree in trees():
            bound = set()
            for node in ast.walk(tree):
                if isinstance(node, ast.Name) and isinstance(node.ctx, ast.Store):
                    bound.add(node.id)
                elif isinstance(node, ast.arg):
                    bound.add(node.arg)
                elif isinstance(node, (ast.FunctionDef, ast.ClassDef)):
                    bound.add(node.name)
                elif isinstance(node, ast.alias):
                    bound.add(node.name)
            read = {node.id for node in ast.walk(tree) if isinstance(node, ast.Name)}
            with self.subTest(name=name):
                self.assertEqual(sorted(read - bound - set(BUILTINS)), [])
                self.assertEqual(sorted(bound & set(BUILTINS)), [])

    def test_words_and_syntax(self):
        for name, tree in trees():
            with self.subTest(name=name):
                for node in ast.walk(tree):
                    self.assertNotIsInstance(node, BARRED_NODES)
                    if isinstance(node, ast.Constant):
                        self.assertNotIsInstance(node.value, (float, complex))
                self.assertIsNone(BARRED_WORDS.search(without_docstrings(tree)))


if __name__ == "__main__":
    unittest.main()
