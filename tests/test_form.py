"""The form of the package's files: some of the rules of the language, not all of them."""

import ast
import builtins
import os
import re
import unittest

import fairbench

FOLDER = os.path.dirname(os.path.abspath(fairbench.__file__))

NODES = """Module ImportFrom alias FunctionDef arguments arg ClassDef Lambda
Assign AugAssign If While For Return Break Continue Pass Raise Try ExceptHandler Expr
Constant List Tuple Dict Set Name Load Store Attribute Subscript Slice Call keyword
BinOp Add Sub Mult FloorDiv Mod Pow BitAnd BitOr BitXor LShift RShift
UnaryOp Not USub UAdd Invert BoolOp And Or Compare Eq NotEq Lt LtE Gt GtE In NotIn Is IsNot
IfExp ListComp comprehension JoinedStr FormattedValue""".split()

BUILT_IN = """len range enumerate zip min max sum abs sorted reversed int str bool list tuple dict set frozenset
isinstance ord repr any all divmod Exception ValueError TypeError KeyError IndexError LookupError ZeroDivisionError
ArithmeticError OverflowError RuntimeError NotImplementedError AttributeError StopIteration""".split()

METHODS = """append clear copy count endswith extend find get index insert isalnum isalpha isdigit islower isspace
isupper items join keys ljust lower lstrip partition pop remove replace reverse rfind rjust rpartition rsplit rstrip
setdefault split splitlines startswith strip update upper values zfill bit_length""".split()

WORDS = """type typing typing_extensions enum Enum IntEnum StrEnum Flag IntFlag Generic Protocol ABC ABCMeta
namedtuple NamedTuple TypedDict TYPE_CHECKING abstractmethod""".split()


def texts():
    told = {}
    for name in sorted(os.listdir(FOLDER)):
        if name != "__pycache__":
            with open(os.path.join(FOLDER, name), "rb") as file:
                told[name] = file.read().decode("ascii")
    return told


def nodes():
    return [(name, node) for name, text in texts().items() for node in ast.walk(ast.parse(text))]


def own_methods():
    return {part.name for name, node in nodes() if isinstance(node, ast.ClassDef)
            for part in node.body if isinstance(part, ast.FunctionDef)}


class Files(unittest.TestCase):
    def test_names_of_files(self):
        self.assertIn("__init__.py", texts())
        for name in texts():
            self.assertRegex(name, r"^(__init__|[a-z][a-z0-9_]*)\.py$")

    def test_signs_and_sizes(self):
        for name, text in texts().items():
            self.assertRegex(text, r"\A[ -~\n]*\Z", name)
            self.assertLessEqual(len(text.splitlines()), 400, name)
            self.assertLessEqual(max(len(row) for row in text.splitlines()), 120, name)

    def test_functions_have_at_most_forty_lines(self):
        for name, node in nodes():
            if isinstance(node, ast.FunctionDef):
                self.assertLessEqual(node.end_lineno - node.lineno + 1, 40, (name, node.name))

    def test_words_that_stand_nowhere(self):
        for name, text in texts().items():
            self.assertEqual(set(re.findall(r"\w+", text)) & set(WORDS), set(), name)
            self.assertIsNone(re.search("dataclass|overload|contextmanager", text), name)


class Code(unittest.TestCase):
    def test_only_the_parts_of_the_language_that_are_kept_to(self):
        for name, node in nodes():
            self.assertIn(node.__class__.__name__, NODES, (name, getattr(node, "lineno", None)))

    def test_imports_are_of_the_packages_own_files(self):
        for name, node in nodes():
            if isinstance(node, ast.ImportFrom):
                self.assertEqual(node.level, 0, name)
                self.assertTrue(node.module.startswith("fairbench."), name)
                self.assertIn(node.module.split(".")[1] + ".py", texts())

    def test_names_are_plain(self):
        for name, node in nodes():
            bound = getattr(node, "id", None) or getattr(node, "arg", None) or getattr(node, "name", None)
            if isinstance(bound, str) and not re.fullmatch(r"__(init|eq|repr|str|len)__", bound):
                self.assertRegex(bound, r"^[A-Za-z]\w*$", name)

    def test_pythons_own_names(self):
        for name, node in nodes():
            if isinstance(node, ast.Name) and hasattr(builtins, node.id):
                self.assertIn(node.id, BUILT_IN, (name, node.lineno))
                self.assertIsInstance(node.ctx, ast.Load, (name, node.lineno))
            if isinstance(node, ast.arg):
                self.assertFalse(hasattr(builtins, node.arg), (name, node.lineno))

    def test_methods_are_pythons_listed_ones_or_the_packages_own(self):
        allowed = set(METHODS) | own_methods()
        for name, node in nodes():
            if isinstance(node, ast.Call) and isinstance(node.func, ast.Attribute):
                self.assertIn(node.func.attr, allowed, (name, node.lineno))

    def test_no_decorators_and_one_target(self):
        for name, node in nodes():
            self.assertFalse(getattr(node, "decorator_list", []), name)
            if isinstance(node, ast.Assign):
                self.assertEqual(len(node.targets), 1, (name, node.lineno))


if __name__ == "__main__":
    unittest.main()
