"""The form of the package's files: some of the rules of the language, not all of them."""

import ast
import builtins
import os
import re
import unittest

import fairbench

FOLDER = os.path.dirname(os.path.abspath(fairbench.__file__))

NODES = """Module ImportFrom alias FunctionDef arguments arg ClassDef Lambda
Assign AugAssign If While For Return Break Continue Pass Raise Try ExceptHandler Expr
Constant List Tuple Dict Set Name Load Store Attribute Subscript Slice Call keyword
BinOp Add Sub Mult FloorDiv Mod Pow BitAnd BitOr BitXor LShift RShift
UnaryOp Not USub UAdd Invert BoolOp And Or Compare Eq NotEq Lt LtE Gt GtE In NotIn Is IsNot
IfExp ListComp comprehension JoinedStr FormattedValue""".split()

BUILT_IN = """len range enumerate zip min max sum abs sorted reversed int str bool list tuple dict set frozenset
isinstance ord repr any all divmod Exception ValueError TypeError KeyError IndexError LookupError ZeroDivisionError
ArithmeticError OverflowError RuntimeError NotImplementedError AttributeError StopIteration""".split()

METHODS = """append clear copy count endswith extend find get index insert isalnum isalpha isdigit islower isspace
isupper items join keys ljust lower lstrip partition pop remove replace reverse rfind rjust rpartition rsplit rstrip
setdefault split splitlines startswith strip update upper values zfill bit_length""".split()

WORDS = """type typing typing_extensions enum Enum IntEnum StrEnum Flag IntFlag Generic Protocol ABC ABCMeta
namedtuple NamedTuple TypedDict TYPE_CHECKING abstractmethod""".split()


UNUSED = """register mro elements open input version_info with_traceback add_note attrgetter breakpoint builtins compile
copyright credits delattr dir eval exec exit gc getattr globals hasattr help id importlib license locals methodcaller
os quit setattr super type vars sys""".split()

WALKED = "zip enumerate reversed range items keys values".split()
WALKERS = "list tuple dict sorted sum any all enumerate zip min max join".split()


def texts():
    told = {}
    for name in sorted(os.listdir(FOLDER)):
        if name != "__pycache__":
            with open(os.path.join(FOLDER, name), "rb") as file:
                told[name] = file.read().decode("ascii")
    return told


def nodes():
    return [(name, node) for name, text in texts().items() for node in ast.walk(ast.parse(text))]


def called(node):
    """The name of what is called, where a name or a method is."""
    if not isinstance(node, ast.Call):
        return None
    return getattr(node.func, "id", None) or getattr(node.func, "attr", None)


def with_parents():
    return [(name, parent, node) for name, parent in nodes() for node in ast.iter_child_nodes(parent)]


def tops():
    return [(name, node) for name, text in texts().items() for node in ast.parse(text).body]


def drawn():
    """For each file the names that it draws from others: pairs (file, name)."""
    told = {name: [] for name in texts()}
    for name, node in nodes():
        if isinstance(node, ast.ImportFrom):
            told[name] += [(node.module.split(".")[1] + ".py", part.name) for part in node.names]
    return told


def bound_at_top():
    told = {name: [] for name in texts()}
    for name, node in tops():
        if isinstance(node, (ast.FunctionDef, ast.ClassDef)):
            told[name].append(node.name)
        if isinstance(node, ast.Assign):
            told[name].append(node.targets[0].id)
    return told


def own_methods():
    return {part.name for name, node in nodes() if isinstance(node, ast.ClassDef)
            for part in node.body if isinstance(part, ast.FunctionDef)}


class Files(unittest.TestCase):
    def test_names_of_files(self):
        self.assertIn("__init__.py", texts())
        for name in texts():
            self.assertRegex(name, r"^(__init__|[a-z][a-z0-9_]*)\.py$")

    def test_signs_and_sizes(self):
        for name, text in texts().items():
            self.assertRegex(text, r"\A[ -~\n]*\Z", name)
            self.assertLessEqual(len(text.splitlines()), 400, name)
            self.assertLessEqual(max(len(row) for row in text.splitlines()), 120, name)

    def test_functions_have_at_most_forty_lines(self):
        for name, node in nodes():
            if isinstance(node, ast.FunctionDef):
                self.assertLessEqual(node.end_lineno - node.lineno + 1, 40, (name, node.name))

    def test_words_that_stand_nowhere(self):
        for name, text in texts().items():
            self.assertEqual(set(re.findall(r"\w+", text)) & set(WORDS), set(), name)
            self.assertIsNone(re.search("dataclass|overload|contextmanager", text), name)


class Code(unittest.TestCase):
    def test_only_the_parts_of_the_language_that_are_kept_to(self):
        for name, node in nodes():
            self.assertIn(node.__class__.__name__, NODES, (name, getattr(node, "lineno", None)))

    def test_imports_are_of_the_packages_own_files(self):
        for name, node in nodes():
            if isinstance(node, ast.ImportFrom):
                self.assertEqual(node.level, 0, name)
                self.assertTrue(node.module.startswith("fairbench."), name)
                self.assertIn(node.module.split(".")[1] + ".py", texts())

    def test_names_are_plain(self):
        for name, node in nodes():
            bound = getattr(node, "id", None) or getattr(node, "arg", None) or getattr(node, "name", None)
            if isinstance(bound, str) and not re.fullmatch(r"__(init|eq|repr|str|len)__", bound):
                self.assertRegex(bound, r"^[A-Za-z]\w*$", name)

    def test_pythons_own_names(self):
        for name, node in nodes():
            if isinstance(node, ast.Name) and hasattr(builtins, node.id):
                self.assertIn(node.id, BUILT_IN, (name, node.lineno))
                self.assertIsInstance(node.ctx, ast.Load, (name, node.lineno))
            if isinstance(node, ast.arg):
                self.assertFalse(hasattr(builtins, node.arg), (name, node.lineno))

    def test_methods_are_pythons_listed_ones_or_the_packages_own(self):
        allowed = set(METHODS) | own_methods()
        for name, node in nodes():
            if isinstance(node, ast.Call) and isinstance(node.func, ast.Attribute):
                self.assertIn(node.func.attr, allowed, (name, node.lineno))

    def test_no_decorators_and_one_target(self):
        for name, node in nodes():
            self.assertFalse(getattr(node, "decorator_list", []), name)
            if isinstance(node, ast.Assign):
                self.assertEqual(len(node.targets), 1, (name, node.lineno))

    def test_classes_hold_methods_alone_and_stand_at_the_top(self):
        for name, parent, node in with_parents():
            if isinstance(node, ast.ClassDef):
                self.assertIsInstance(parent, ast.Module, name)
                self.assertLessEqual(len(node.bases), 1, (name, node.name))
                methods = [part.name for part in node.body if isinstance(part, ast.FunctionDef)]
                self.assertEqual(len(methods), len(set(methods)), (name, node.name))
                for part in node.body:
                    self.assertIsInstance(part, (ast.FunctionDef, ast.Pass), (name, part.lineno))

    def test_no_name_is_a_method_and_a_value(self):
        values = {node.attr for name, node in nodes()
                  if isinstance(node, ast.Attribute) and isinstance(node.ctx, ast.Store)}
        self.assertEqual(values & own_methods(), set())

    def test_names_of_a_files_top_are_bound_once_and_lent_to_no_local(self):
        tops_of, imports_of = bound_at_top(), drawn()
        for name, bound in tops_of.items():
            every = bound + [part for file, part in imports_of[name]]
            self.assertEqual(len(every), len(set(every)), name)
        for name, node in nodes():
            local = node.arg if isinstance(node, ast.arg) else None
            if isinstance(node, ast.Name) and isinstance(node.ctx, ast.Store):
                local = node.id
            self.assertNotIn(local, [part for file, part in imports_of[name]], (name, getattr(node, "lineno", None)))

    def test_names_are_drawn_from_the_file_that_defines_them_and_in_no_circle(self):
        tops_of, imports_of = bound_at_top(), drawn()
        for name, pairs in imports_of.items():
            for file, part in pairs:
                self.assertIn(part, tops_of[file], name)
            ahead = {file for file, part in pairs}
            for step in imports_of:
                ahead |= {file for one in ahead for file, part in imports_of[one]}
            self.assertNotIn(name, ahead)

    def test_names_that_are_not_used(self):
        for name, node in nodes():
            used = getattr(node, "id", None) or getattr(node, "attr", None) or getattr(node, "name", None)
            self.assertNotIn(used, UNUSED, (name, getattr(node, "lineno", None)))

    def test_is_stands_beside_none_true_and_false(self):
        for name, node in nodes():
            if isinstance(node, ast.Compare) and any(isinstance(sign, (ast.Is, ast.IsNot)) for sign in node.ops):
                for part in node.comparators:
                    self.assertIsInstance(part, ast.Constant, (name, node.lineno))

    def test_what_is_walked_is_walked_on_the_spot(self):
        for name, parent, node in with_parents():
            if called(node) in WALKED:
                walked = isinstance(parent, (ast.For, ast.comprehension)) and parent.iter is node
                self.assertTrue(walked or called(parent) in WALKERS, (name, node.lineno))

    def test_sets_are_not_kept(self):
        for name, parent, node in with_parents():
            self.assertNotIsInstance(node, ast.Set, name)
            if called(node) == "set":
                self.assertIn(called(parent), ("sorted", "len"), (name, node.lineno))

    def test_keywords(self):
        for name, node in nodes():
            if isinstance(node, ast.Call) and node.keywords:
                self.assertIn((called(node), [part.arg for part in node.keywords]), [("sorted", ["key"])], name)


if __name__ == "__main__":
    unittest.main()
