"""The countable part of ../shared/LANGUAGE.md: names of files, signs, sizes, words, imports, sorts of statements."""

import ast
import os
import re
import unittest

TOP = os.path.dirname(os.path.dirname(os.path.abspath(__file__)))
PACKAGE = os.path.join(TOP, "rimnotes")
BANNED_WORDS = re.compile(
    r"\b(type|typing|typing_extensions|enum|Enum|IntEnum|StrEnum|Flag|IntFlag|Generic|Protocol|ABC|ABCMeta|namedtuple"
    r"|NamedTuple|TypedDict|TYPE_CHECKING|abstractmethod)\b|dataclass|overload|contextmanager")
BANNED_NODES = (
    ast.With, ast.Match, ast.Delete, ast.Global, ast.Nonlocal, ast.Assert, ast.Yield, ast.YieldFrom, ast.Await,
    ast.AsyncFunctionDef, ast.AsyncFor, ast.AsyncWith, ast.SetComp, ast.DictComp, ast.GeneratorExp, ast.NamedExpr,
    ast.Starred, ast.Div, ast.Import)
OWN_NAMES = (
    "len range enumerate zip min max sum abs sorted reversed int str bool list tuple dict set frozenset isinstance ord "
    "repr any all divmod Exception ValueError TypeError KeyError IndexError LookupError ZeroDivisionError "
    "ArithmeticError OverflowError RuntimeError NotImplementedError AttributeError StopIteration").split()
OWN_METHODS = ("__init__", "__eq__", "__repr__", "__str__", "__len__")
METHODS_OF_VALUES = (
    "append clear copy count endswith extend find get index insert isalnum isalpha isdigit islower isspace isupper "
    "items join keys ljust lower lstrip partition pop remove replace reverse rfind rjust rpartition rsplit rstrip "
    "setdefault split splitlines startswith strip update upper values zfill bit_length").split()
WALKED_AT_ONCE = ("zip", "enumerate", "reversed", "range", "items", "keys", "values")
WALKERS = ("list", "tuple", "dict", "sorted", "sum", "any", "all", "enumerate", "zip")


def files():
    return sorted(name for name in os.listdir(PACKAGE) if name != "__pycache__")


def texts():
    for name in files():
        with open(os.path.join(PACKAGE, name), encoding="utf-8", newline="") as file:
            yield name, file.read()


def nodes():
    for name, text in texts():
        for node in ast.walk(ast.parse(text)):
            yield name, node


def classes():
    for name, node in nodes():
        if isinstance(node, ast.ClassDef):
            yield node


def methods():
    return [node.name for made in classes() for node in made.body if isinstance(node, ast.FunctionDef)]


def called(node):
    """The name of what a call calls, or None where it has none."""
    if not isinstance(node, ast.Call):
        return None
    return getattr(node.func, "id", getattr(node.func, "attr", None))


class FormTest(unittest.TestCase):
    def test_files_have_plain_names(self):
        self.assertIn("__init__.py", files())
        for name in files():
            self.assertRegex(name, r"\A([a-z][a-z0-9_]*|__init__|__main__)\.py\Z")

    def test_signs_and_sizes(self):
        for name, text in texts():
            self.assertRegex(text, r"\A[ -~\n]*\Z", name)
            lines = text.split("\n")
            self.assertLessEqual(len(lines), 400, name)
            self.assertLessEqual(max(len(line) for line in lines), 120, name)

    def test_functions_are_short(self):
        for name, node in nodes():
            if isinstance(node, ast.FunctionDef):
                self.assertLessEqual(node.end_lineno - node.lineno + 1, 40, (name, node.name))

    def test_words_that_stand_nowhere(self):
        for name, text in texts():
            self.assertIsNone(BANNED_WORDS.search(text), name)

    def test_statements_and_expressions_that_are_not_used(self):
        for name, node in nodes():
            self.assertNotIsInstance(node, BANNED_NODES, (name, getattr(node, "lineno", None)))
            if isinstance(node, ast.Constant):
                self.assertNotIsInstance(node.value, (float, bytes, complex), name)
            if isinstance(node, (ast.FunctionDef, ast.ClassDef)):
                self.assertEqual(node.decorator_list, [], name)

    def test_imports_are_of_the_package(self):
        for name, node in nodes():
            if isinstance(node, ast.ImportFrom):
                self.assertRegex(node.module, r"\A(rimnotes\.[a-z_]+|__future__)\Z", name)
                self.assertEqual([entry.name for entry in node.names if entry.name == "*"], [], name)

    def test_names_do_not_begin_with_an_underscore(self):
        for name, node in nodes():
            for field in ("id", "attr", "arg", "name"):
                word = getattr(node, field, None)
                if isinstance(word, str) and word not in OWN_METHODS:
                    self.assertRegex(word, r"\A[A-Za-z]", name)

    def test_no_other_names_of_pythons_own(self):
        others = [word for word in dir(__import__("builtins")) if word not in OWN_NAMES + ["True", "False", "None"]]
        for name, node in nodes():
            if isinstance(node, ast.Name):
                self.assertNotIn(node.id, others, name)

    def test_no_name_is_a_method_and_a_value(self):
        values = [node.attr for name, node in nodes()
                  if isinstance(node, ast.Attribute) and isinstance(node.ctx, ast.Store)]
        self.assertEqual(sorted(set(values) & set(methods())), [])

    def test_methods_that_are_called(self):
        known = METHODS_OF_VALUES + methods()
        for name, node in nodes():
            if isinstance(node, ast.Call) and isinstance(node.func, ast.Attribute):
                self.assertIn(node.func.attr, known, (name, node.lineno))

    def test_is_stands_beside_none_and_the_truths(self):
        for name, node in nodes():
            if isinstance(node, ast.Compare) and isinstance(node.ops[0], (ast.Is, ast.IsNot)):
                self.assertIsInstance(node.comparators[0], ast.Constant, (name, node.lineno))

    def test_locals_are_not_called_like_names_of_pythons_own_or_imports(self):
        for name, text in texts():
            tree = ast.parse(text)
            bound = dir(__import__("builtins")) + [
                entry.name for node in tree.body if isinstance(node, ast.ImportFrom) for entry in node.names]
            for node in ast.walk(tree):
                if isinstance(node, ast.Name) and isinstance(node.ctx, ast.Store):
                    self.assertNotIn(node.id, bound, (name, node.lineno))
                if isinstance(node, ast.arg):
                    self.assertNotIn(node.arg, bound, (name, node.lineno))
                    self.assertIsNone(node.annotation, (name, node.lineno))

    def test_comprehensions_have_one_for_and_loops_no_else(self):
        for name, node in nodes():
            if isinstance(node, ast.ListComp):
                self.assertEqual(len(node.generators), 1, (name, node.lineno))
                self.assertLessEqual(len(node.generators[0].ifs), 1, (name, node.lineno))
            if isinstance(node, (ast.For, ast.While)):
                self.assertEqual(node.orelse, [], (name, node.lineno))
            if isinstance(node, ast.Assign):
                self.assertEqual(len(node.targets), 1, (name, node.lineno))

    def test_f_strings_hold_plain_names(self):
        for name, node in nodes():
            if isinstance(node, ast.FormattedValue):
                self.assertIsInstance(node.value, ast.Name, (name, node.lineno))
                self.assertIsNone(node.format_spec, (name, node.lineno))

    def test_what_is_walked_at_once_and_sets_are_not_kept(self):
        for name, node in nodes():
            if isinstance(node, (ast.Assign, ast.Return)):
                self.assertNotIn(called(node.value), WALKED_AT_ONCE + ("set", "frozenset"), (name, node.lineno))
            if isinstance(node, ast.For):
                self.assertNotIn(called(node.iter), ("set", "frozenset"), (name, node.lineno))
            self.assertNotIsInstance(node, ast.Set, name)

    def test_what_is_walked_stands_where_it_is_walked(self):
        for name, text in texts():
            walked = []
            for node in ast.walk(ast.parse(text)):
                if isinstance(node, (ast.For, ast.comprehension)):
                    walked.append(node.iter)
                if called(node) in WALKERS or (called(node) in ("min", "max", "join") and len(node.args) == 1):
                    walked.extend(node.args[:1])
            walked = [ast.dump(node, include_attributes=True) for node in walked]
            for node in ast.walk(ast.parse(text)):
                if called(node) in WALKED_AT_ONCE:
                    self.assertIn(ast.dump(node, include_attributes=True), walked, (name, node.lineno))

    def test_locals_are_not_called_like_classes_of_their_file(self):
        for name, text in texts():
            tree = ast.parse(text)
            made = [node.name for node in tree.body if isinstance(node, ast.ClassDef)]
            for node in ast.walk(tree):
                if isinstance(node, ast.Name) and isinstance(node.ctx, ast.Store):
                    self.assertNotIn(node.id, made, (name, node.lineno))

    def test_names_of_a_files_top_are_bound_once(self):
        for name, text in texts():
            bound = []
            for node in ast.parse(text).body:
                if isinstance(node, (ast.FunctionDef, ast.ClassDef)):
                    bound.append(node.name)
                if isinstance(node, ast.ImportFrom):
                    bound.extend(entry.name for entry in node.names)
                if isinstance(node, ast.Assign):
                    bound.append(node.targets[0].id)
            self.assertEqual(sorted(set(bound)), sorted(bound), name)

    def test_files_draw_from_one_another_one_way(self):
        drawn = {}
        for name, text in texts():
            drawn["rimnotes." + name[:-3]] = [
                node.module for node in ast.parse(text).body if isinstance(node, ast.ImportFrom)]
        while drawn:
            free = [name for name in drawn if not any(module in drawn for module in drawn[name])]
            self.assertNotEqual(free, [], drawn)
            for name in free:
                drawn.pop(name)


if __name__ == "__main__":
    unittest.main()
