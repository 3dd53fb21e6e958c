"""The countable part of ../shared/LANGUAGE.md: names of files, signs, sizes, words, imports, sorts of statements."""

import ast
import os
import re
import unittest

TOP = os.path.dirname(os.path.dirname(os.path.abspath(__file__)))
PACKAGE = os.path.join(TOP, "rimnotes")
BANNED_WORDS = re.compile(
    r"\b(type|typing|typing_extensions|enum|Enum|IntEnum|StrEnum|Flag|IntFlag|Generic|Protocol|ABC|ABCMeta|namedtuple"
    r"|NamedTuple|TypedDict|TYPE_CHECKING|abstractmethod)\b|dataclass|overload|contextmanager")
BANNED_NODES = (
    ast.With, ast.Match, ast.Delete, ast.Global, ast.Nonlocal, ast.Assert, ast.Yield, ast.YieldFrom, ast.Await,
    ast.AsyncFunctionDef, ast.AsyncFor, ast.AsyncWith, ast.SetComp, ast.DictComp, ast.GeneratorExp, ast.NamedExpr,
    ast.Starred, ast.Div, ast.Import)
OWN_NAMES = (
    "len range enumerate zip min max sum abs sorted reversed int str bool list tuple dict set frozenset isinstance ord "
    "repr any all divmod Exception ValueError TypeError KeyError IndexError LookupError ZeroDivisionError "
    "ArithmeticError OverflowError RuntimeError NotImplementedError AttributeError StopIteration").split()
OWN_METHODS = ("__init__", "__eq__", "__repr__", "__str__", "__len__")


def files():
    return sorted(name for name in os.listdir(PACKAGE) if name != "__pycache__")


def texts():
    for name in files():
        with open(os.path.join(PACKAGE, name), encoding="utf-8", newline="") as file:
            yield name, file.read()


def nodes():
    for name, text in texts():
        for node in ast.walk(ast.parse(text)):
            yield name, node


class FormTest(unittest.TestCase):
    def test_files_have_plain_names(self):
        self.assertIn("__init__.py", files())
        for name in files():
            self.assertRegex(name, r"\A([a-z][a-z0-9_]*|__init__|__main__)\.py\Z")

    def test_signs_and_sizes(self):
        for name, text in texts():
            self.assertRegex(text, r"\A[ -~\n]*\Z", name)
            lines = text.split("\n")
            self.assertLessEqual(len(lines), 400, name)
            self.assertLessEqual(max(len(line) for line in lines), 120, name)

    def test_functions_are_short(self):
        for name, node in nodes():
            if isinstance(node, ast.FunctionDef):
                self.assertLessEqual(node.end_lineno - node.lineno + 1, 40, (name, node.name))

    def test_words_that_stand_nowhere(self):
        for name, text in texts():
            self.assertIsNone(BANNED_WORDS.search(text), name)

    def test_statements_and_expressions_that_are_not_used(self):
        for name, node in nodes():
            self.assertNotIsInstance(node, BANNED_NODES, (name, getattr(node, "lineno", None)))
            if isinstance(node, ast.Constant):
                self.assertNotIsInstance(node.value, (float, bytes, complex), name)
            if isinstance(node, (ast.FunctionDef, ast.ClassDef)):
                self.assertEqual(node.decorator_list, [], name)

    def test_imports_are_of_the_package(self):
        for name, node in nodes():
            if isinstance(node, ast.ImportFrom):
                self.assertRegex(node.module, r"\A(rimnotes\.[a-z_]+|__future__)\Z", name)
                self.assertEqual([entry.name for entry in node.names if entry.name == "*"], [], name)

    def test_names_do_not_begin_with_an_underscore(self):
        for name, node in nodes():
            for field in ("id", "attr", "arg", "name"):
                word = getattr(node, field, None)
                if isinstance(word, str) and word not in OWN_METHODS:
                    self.assertRegex(word, r"\A[A-Za-z]", name)

    def test_no_other_names_of_pythons_own(self):
        others = [word for word in dir(__import__("builtins")) if word not in OWN_NAMES + ["True", "False", "None"]]
        for name, node in nodes():
            if isinstance(node, ast.Name):
                self.assertNotIn(node.id, others, name)


if __name__ == "__main__":
    unittest.main()
