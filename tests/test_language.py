"""Holds the package's files to the part of Python that the program keeps to.

Only what can be seen file by file is asked; the rules' numbers stand beside.
"""

import ast
import pathlib
import re
import unittest

FOLDER = pathlib.Path(__file__).resolve().parent.parent / "ringpop"

STATEMENTS = (
    ast.FunctionDef, ast.ClassDef, ast.Assign, ast.AugAssign, ast.AnnAssign, ast.If, ast.While, ast.For,
    ast.Return, ast.Break, ast.Continue, ast.Pass, ast.Raise, ast.Try, ast.Expr, ast.ImportFrom,
)
EXPRESSIONS = (
    ast.Constant, ast.List, ast.Tuple, ast.Dict, ast.Set, ast.BinOp, ast.UnaryOp, ast.BoolOp, ast.Compare,
    ast.IfExp, ast.Call, ast.Attribute, ast.Subscript, ast.Slice, ast.ListComp, ast.JoinedStr,
    ast.FormattedValue, ast.Name, ast.Lambda,
)
BUILT_IN = set(
    "len range enumerate zip min max sum abs sorted reversed int str bool list tuple dict set frozenset "
    "isinstance ord repr any all divmod Exception ValueError TypeError KeyError IndexError LookupError "
    "ZeroDivisionError ArithmeticError OverflowError RuntimeError NotImplementedError AttributeError "
    "StopIteration".split()
)
METHODS = set(
    "append clear copy count endswith extend find get index insert isalnum isalpha isdigit islower isspace "
    "isupper items join keys ljust lower lstrip partition pop remove replace reverse rfind rjust rpartition "
    "rsplit rstrip setdefault split splitlines startswith strip update upper values zfill bit_length".split()
)
DUNDERS = ("__init__", "__eq__", "__repr__", "__str__", "__len__")
WORDS = re.compile(
    r"\b(type|typing|typing_extensions|enum|Enum|IntEnum|StrEnum|Flag|IntFlag|Generic|Protocol|ABC|ABCMeta"
    r"|namedtuple|NamedTuple|TypedDict|TYPE_CHECKING|abstractmethod)\b|dataclass|overload|contextmanager"
)


def files():
    return sorted(FOLDER.glob("*.py"))


def nodes_of(kind):
    for file in files():
        for node in ast.walk(ast.parse(file.read_text())):
            if isinstance(node, kind):
                yield file.name, node


def bound_names(tree):
    names = set()
    for node in ast.walk(tree):
        if isinstance(node, (ast.FunctionDef, ast.ClassDef)):
            names.add(node.name)
        elif isinstance(node, ast.arg):
            names.add(node.arg)
        elif isinstance(node, ast.alias):
            names.add(node.asname or node.name)
        elif isinstance(node, ast.ExceptHandler) and node.name:
            names.add(node.name)
        elif isinstance(node, ast.Name) and isinstance(node.ctx, ast.Store):
            names.add(node.id)
    return names


class TestFiles(unittest.TestCase):
    def test_names_of_files(self):  # L1, L14
        things = [thing for thing in FOLDER.iterdir() if thing.name != "__pycache__"]
        self.assertIn(FOLDER / "__init__.py", things)
        for thing in things:
            self.assertRegex(thing.name, r"\A([a-z][a-z0-9_]*|__init__|__main__)\.py\Z")

    def test_signs_words_and_sizes(self):  # L10, L14, L17, L27
        for file in files():
            text = file.read_bytes().decode("ascii")
            self.assertEqual([sign for sign in text if not (" " <= sign <= "~" or sign == "\n")], [])
            self.assertIsNone(WORDS.search(text), file.name)
            rows = text.split("\n")
            self.assertLessEqual(len(rows), 400)
            self.assertLessEqual(max(len(row) for row in rows), 120)

    def test_sizes_of_functions(self):  # L10
        for name, node in nodes_of(ast.FunctionDef):
            self.assertLessEqual(node.end_lineno - node.lineno + 1, 40, (name, node.name))


class TestTrees(unittest.TestCase):
    def test_statements_and_expressions(self):  # L6, L7
        for name, node in nodes_of(ast.stmt):
            self.assertIsInstance(node, STATEMENTS, (name, node.lineno))
        for name, node in nodes_of(ast.expr):
            self.assertIsInstance(node, EXPRESSIONS, (name, node.lineno))

    def test_loops_tries_and_assignments(self):  # L6
        for name, node in nodes_of((ast.For, ast.While)):
            self.assertEqual(node.orelse, [], (name, node.lineno))
        for name, node in nodes_of(ast.Try):
            self.assertEqual(node.finalbody, [], (name, node.lineno))
        for name, node in nodes_of(ast.Assign):
            self.assertEqual(len(node.targets), 1, (name, node.lineno))
            self.assertNotIsInstance(node.targets[0], (ast.Tuple, ast.List), (name, node.lineno))
        for name, node in nodes_of(ast.ListComp):
            self.assertEqual(len(node.generators), 1, (name, node.lineno))
            self.assertLessEqual(len(node.generators[0].ifs), 1, (name, node.lineno))

    def test_values(self):  # L7
        for name, node in nodes_of(ast.Constant):
            self.assertIn(type(node.value), (int, str, bool, type(None)), (name, node.lineno))
        for name, node in nodes_of((ast.Div, ast.MatMult)):
            self.fail(name)

    def test_imports(self):  # L2, L16
        modules = {"ringpop." + file.stem for file in files()}
        for name, node in nodes_of(ast.ImportFrom):
            self.assertEqual(node.level, 0, name)
            self.assertIn(node.module, modules, name)
            defined = bound_names(ast.parse((FOLDER / (node.module.split(".")[1] + ".py")).read_text()))
            for alias in node.names:
                self.assertIn(alias.name, defined, name)

    def test_functions_and_classes(self):  # L4, L5
        for name, node in nodes_of(ast.FunctionDef):
            told = node.args
            self.assertEqual(node.decorator_list, [], (name, node.name))
            self.assertFalse(told.vararg or told.kwarg or told.kwonlyargs or told.posonlyargs, (name, node.name))
        for name, node in nodes_of(ast.ClassDef):
            self.assertEqual((node.decorator_list, node.keywords), ([], []), (name, node.name))
            self.assertLessEqual(len(node.bases), 1, (name, node.name))
            for part in node.body:
                self.assertIsInstance(part, (ast.FunctionDef, ast.Pass), (name, node.name))

    def test_names(self):  # L8, L12, L15
        python_own = set(dir(__builtins__) if not isinstance(__builtins__, dict) else __builtins__)
        for file in files():
            tree = ast.parse(file.read_text())
            bound = bound_names(tree)
            for given in bound - set(DUNDERS):
                self.assertRegex(given, r"\A[A-Za-z][A-Za-z0-9_]*\Z", file.name)
                self.assertNotIn(given, python_own, file.name)
            for node in ast.walk(tree):
                if isinstance(node, ast.Name):
                    self.assertIn(node.id, bound | BUILT_IN, (file.name, node.lineno))

    def test_methods_are_called_by_allowed_names(self):  # L25
        own = {node.name for name, node in nodes_of(ast.FunctionDef)}
        for name, node in nodes_of(ast.Call):
            if isinstance(node.func, ast.Attribute):
                self.assertIn(node.func.attr, METHODS | own, (name, node.lineno))

    def test_is_stands_beside_none_true_false(self):  # L20
        for name, node in nodes_of(ast.Compare):
            for sign, right in zip(node.ops, node.comparators):
                if isinstance(sign, (ast.Is, ast.IsNot)):
                    self.assertTrue(isinstance(right, ast.Constant) and right.value in (None, True, False), name)


if __name__ == "__main__":
    unittest.main()
