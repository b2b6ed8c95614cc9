"""The package keeps to the part of Python that it is written in, as far as a look at its files tells."""

import ast
import builtins
import pathlib
import re
import unittest

PACKAGE = pathlib.Path(__file__).resolve().parent.parent / "coilkind"
FILES = sorted(PACKAGE.glob("*.py"))
OWN_NAMES = """len range enumerate zip min max sum abs sorted reversed int str bool bytes list tuple dict set frozenset
isinstance ord repr any all divmod Exception ValueError TypeError KeyError IndexError LookupError ZeroDivisionError
ArithmeticError OverflowError RuntimeError NotImplementedError AttributeError StopIteration""".split()
WORDS = """type typing typing_extensions enum Enum IntEnum StrEnum Flag IntFlag Generic Protocol ABC ABCMeta namedtuple
NamedTuple TypedDict TYPE_CHECKING abstractmethod""".split()
NODES = (ast.GeneratorExp, ast.NamedExpr, ast.With, ast.Match, ast.Global, ast.Nonlocal, ast.Yield, ast.YieldFrom,
         ast.AsyncFunctionDef, ast.Await, ast.Div, ast.Import, ast.AnnAssign)


class Form(unittest.TestCase):
    def trees(self):
        for file in FILES:
            yield file.name, ast.parse(file.read_text())

    def test_files(self):
        self.assertIn("__init__.py", [file.name for file in FILES])
        for file in PACKAGE.iterdir():
            if file.name != "__pycache__":
                self.assertRegex(file.name, r"^[a-z0-9_]+\.py$")

    def test_lines_and_signs(self):
        for file in FILES:
            text = file.read_bytes().decode("ascii")
            self.assertLessEqual(len(text.split("\n")), 400, file)
            for line in text.split("\n"):
                self.assertLessEqual(len(line), 120, line)
                self.assertRegex(line, r"^[ -~]*$")

    def test_words(self):
        for file in FILES:
            text = file.read_text()
            for word in WORDS:
                self.assertIsNone(re.search(rf"\b{word}\b", text), (file.name, word))

    def test_nodes(self):
        for name, tree in self.trees():
            for node in ast.walk(tree):
                self.assertNotIsInstance(node, NODES, (name, getattr(node, "lineno", 0)))
                self.assertFalse(getattr(node, "decorator_list", []), name)
                self.assertFalse(isinstance(node, (ast.For, ast.While)) and node.orelse, name)
                self.assertFalse(isinstance(node, ast.Constant) and isinstance(node.value, float), name)

    def test_functions_are_short(self):
        for name, tree in self.trees():
            for node in ast.walk(tree):
                if isinstance(node, ast.FunctionDef):
                    self.assertLessEqual(node.end_lineno - node.lineno + 1, 40, (name, node.name))

    def test_imports(self):
        for name, tree in self.trees():
            for node in ast.walk(tree):
                if isinstance(node, ast.ImportFrom):
                    self.assertIn(node, tree.body, name)
                    self.assertEqual(node.level, 0, name)
                    self.assertTrue(node.module.startswith("coilkind."), name)

    def test_names_of_pythons_own(self):
        for name, tree in self.trees():
            for node in ast.walk(tree):
                if isinstance(node, ast.Name) and hasattr(builtins, node.id):
                    self.assertIn(node.id, OWN_NAMES, (name, node.lineno))
                    self.assertIsInstance(node.ctx, ast.Load, (name, node.lineno))
                if isinstance(node, ast.arg):
                    self.assertFalse(hasattr(builtins, node.arg), (name, node.lineno))
