"""The package keeps to the part of Python that it is written in, as far as a look at its files tells."""

import ast
import builtins
import pathlib
import re
import unittest

PACKAGE = pathlib.Path(__file__).resolve().parent.parent / "coilkind"
FILES = sorted(PACKAGE.glob("*.py"))
OWN_NAMES = """len range enumerate zip min max sum abs sorted reversed int str bool bytes list tuple dict set frozenset
isinstance ord repr any all divmod Exception ValueError TypeError KeyError IndexError LookupError ZeroDivisionError
ArithmeticError OverflowError RuntimeError NotImplementedError AttributeError StopIteration""".split()
WORDS = """type typing typing_extensions enum Enum IntEnum StrEnum Flag IntFlag Generic Protocol ABC ABCMeta namedtuple
NamedTuple TypedDict TYPE_CHECKING abstractmethod""".split()
NODES = (ast.GeneratorExp, ast.NamedExpr, ast.With, ast.Match, ast.Global, ast.Nonlocal, ast.Yield, ast.YieldFrom,
         ast.AsyncFunctionDef, ast.Await, ast.Div, ast.Import, ast.AnnAssign)

METHODS = """append clear copy count endswith extend find get index insert isalnum isalpha isdigit islower isspace
isupper items join keys ljust lower lstrip partition pop remove replace reverse rfind rjust rpartition rsplit rstrip
setdefault split splitlines startswith strip update upper values zfill bit_length sort add discard
__init__""".split()


class Form(unittest.TestCase):
    def trees(self):
        for file in FILES:
            yield file.name, ast.parse(file.read_text())

    def test_files(self):
        self.assertIn("__init__.py", [file.name for file in FILES])
        for file in PACKAGE.iterdir():
            if file.name != "__pycache__":
                self.assertRegex(file.name, r"^[a-z0-9_]+\.py$")

    def test_lines_and_signs(self):
        for file in FILES:
            text = file.read_bytes().decode("ascii")
            self.assertLessEqual(len(text.split("\n")), 400, file)
            for line in text.split("\n"):
                self.assertLessEqual(len(line), 120, line)
                self.assertRegex(line, r"^[ -~]*$")

    def test_words(self):
        for file in FILES:
            text = file.read_text()
            for word in WORDS:
                self.assertIsNone(re.search(rf"\b{word}\b", text), (file.name, word))

    def test_nodes(self):
        for name, tree in self.trees():
            for node in ast.walk(tree):
                self.assertNotIsInstance(node, NODES, (name, getattr(node, "lineno", 0)))
                self.assertFalse(getattr(node, "decorator_list", []), name)
                self.assertFalse(isinstance(node, (ast.For, ast.While)) and node.orelse, name)
                self.assertFalse(isinstance(node, ast.Constant) and isinstance(node.value, float), name)

    def test_what_stands_beside_is(self):
        for name, tree in self.trees():
            for node in ast.walk(tree):
                if isinstance(node, ast.Compare) and isinstance(node.ops[0], (ast.Is, ast.IsNot)):
                    self.assertIsInstance(node.comparators[0], ast.Constant, (name, node.lineno))
                    self.assertIn(node.comparators[0].value, (None, True, False), (name, node.lineno))

    def test_plain_names(self):
        for name, tree in self.trees():
            for node in ast.walk(tree):
                called = [getattr(node, field, None) for field in ("id", "arg", "attr", "name")]
                for one in called:
                    self.assertFalse(isinstance(one, str) and one.startswith("_") and one != "__init__", (name, one))

    def test_what_is_walked_on_the_spot(self):
        walkers = ("list", "tuple", "dict", "sorted", "sum", "any", "all", "enumerate", "zip")
        for name, tree in self.trees():
            right = [node.iter for node in ast.walk(tree) if isinstance(node, (ast.For, ast.comprehension))]
            for node in ast.walk(tree):
                if isinstance(node, ast.Call) and getattr(node.func, "id", "") in walkers + ("min", "max", "reversed"):
                    right += node.args[:1]
            for node in ast.walk(tree):
                if isinstance(node, ast.Call) and (
                        getattr(node.func, "id", "") in ("zip", "enumerate", "reversed", "range")
                        or getattr(node.func, "attr", "") in ("items", "keys", "values")):
                    self.assertIn(node, right, (name, node.lineno))

    def test_sets_are_made_where_they_may_be(self):
        for name, tree in self.trees():
            right = [node.value for node in ast.walk(tree) if isinstance(node, ast.Assign)]
            for node in ast.walk(tree):
                if isinstance(node, ast.Compare):
                    right += [node.left] + node.comparators
                if isinstance(node, ast.Call) and getattr(node.func, "id", "") in ("sorted", "len"):
                    right += node.args
            for node in ast.walk(tree):
                if isinstance(node, (ast.Set, ast.SetComp)) or getattr(getattr(node, "func", 0), "id", "") == "set":
                    self.assertIn(node, right, (name, node.lineno))

    def test_no_sign_that_python_formats_by(self):
        for name, tree in self.trees():
            for node in ast.walk(tree):
                if isinstance(node, ast.Constant) and isinstance(node.value, str):
                    self.assertNotIn("%", node.value, (name, node.lineno))

    def test_functions_are_short(self):
        for name, tree in self.trees():
            for node in ast.walk(tree):
                if isinstance(node, ast.FunctionDef):
                    self.assertLessEqual(node.end_lineno - node.lineno + 1, 40, (name, node.name))

    def test_imports(self):
        for name, tree in self.trees():
            for node in ast.walk(tree):
                if isinstance(node, ast.ImportFrom):
                    self.assertIn(node, tree.body, name)
                    self.assertEqual(node.level, 0, name)
                    self.assertTrue(node.module.startswith("coilkind."), name)

    def test_names_of_pythons_own(self):
        for name, tree in self.trees():
            for node in ast.walk(tree):
                if isinstance(node, ast.Name) and hasattr(builtins, node.id):
                    self.assertIn(node.id, OWN_NAMES, (name, node.lineno))
                    self.assertIsInstance(node.ctx, ast.Load, (name, node.lineno))
                if isinstance(node, ast.arg):
                    self.assertFalse(hasattr(builtins, node.arg), (name, node.lineno))

    def test_no_local_is_called_like_a_class_or_an_import(self):
        for name, tree in self.trees():
            drawn = [row.name for row in tree.body if isinstance(row, ast.ClassDef)]
            for row in tree.body:
                if isinstance(row, ast.ImportFrom):
                    drawn += [one.name for one in row.names]
            for node in ast.walk(tree):
                if isinstance(node, ast.Name) and isinstance(node.ctx, ast.Store):
                    self.assertNotIn(node.id, drawn, (name, node.lineno))
                if isinstance(node, ast.arg):
                    self.assertNotIn(node.arg, drawn, (name, node.lineno))

    def test_attributes_are_known_ones(self):
        methods, values = set(), set()
        for name, tree in self.trees():
            for node in ast.walk(tree):
                if isinstance(node, ast.ClassDef):
                    methods |= {row.name for row in node.body if isinstance(row, ast.FunctionDef)}
                if isinstance(node, ast.Attribute) and isinstance(node.ctx, ast.Store):
                    values.add(node.attr)
        self.assertFalse(methods & values)
        for name, tree in self.trees():
            for node in ast.walk(tree):
                if isinstance(node, ast.Attribute):
                    self.assertIn(node.attr, methods | values | set(METHODS), (name, node.lineno))

    def test_files_draw_from_none_that_draws_from_them(self):
        drawn = {}
        for name, tree in self.trees():
            rows = [row for row in tree.body if isinstance(row, ast.ImportFrom)]
            drawn[name[:-3]] = {row.module.split(".")[1] for row in rows}
            for row in rows:
                source = ast.parse((PACKAGE / (row.module.split(".")[1] + ".py")).read_text())
                own = [node.name for node in source.body if isinstance(node, (ast.FunctionDef, ast.ClassDef))]
                own += [node.targets[0].id for node in source.body if isinstance(node, ast.Assign)]
                for one in row.names:
                    self.assertIn(one.name, own, (name, row.module))
        while drawn:
            free = [name for name in drawn if not drawn[name] & set(drawn)]
            self.assertTrue(free, drawn)
            for name in free:
                del drawn[name]
