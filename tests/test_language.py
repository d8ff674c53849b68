"""The package's files held against the rules of ../shared/LANGUAGE.md that can be seen in the text."""

import ast
import builtins
import re
import unittest
from pathlib import Path


PACKAGE = Path(__file__).resolve().parent.parent / "shortpurse"
ERROR_NAMES = """Exception ValueError TypeError KeyError IndexError LookupError ZeroDivisionError ArithmeticError
    OverflowError RuntimeError NotImplementedError AttributeError StopIteration""".split()
OWN_NAMES = """len range enumerate zip min max sum abs sorted reversed int str bool list tuple dict set frozenset
    isinstance ord repr any all divmod""".split() + ERROR_NAMES
METHODS = """append clear copy count endswith extend find get index insert isalnum isalpha isdigit islower isspace
    isupper items join keys ljust lower lstrip partition pop remove replace reverse rfind rjust rpartition rsplit
    rstrip setdefault split splitlines startswith strip update upper values zfill bit_length""".split()
DUNDERS = "__init__ __eq__ __repr__ __str__ __len__".split()
BANNED_WORDS = """type typing typing_extensions enum Enum IntEnum StrEnum Flag IntFlag Generic Protocol ABC ABCMeta
    namedtuple NamedTuple TypedDict TYPE_CHECKING abstractmethod""".split()
BANNED_PARTS = ["dataclass", "overload", "contextmanager"]
BANNED_NAMES = """register mro elements open input version_info with_traceback add_note format format_map attrgetter
    methodcaller os sys gc importlib""".split()
ALLOWED = """Module Import ImportFrom alias FunctionDef ClassDef arguments arg Assign AugAssign If While For Return
    Break Continue Pass Raise Try ExceptHandler Expr Call Lambda BinOp UnaryOp BoolOp Compare IfExp Attribute
    Subscript Slice Name Constant List Tuple Dict Set ListComp comprehension JoinedStr FormattedValue keyword
    Load Store Add Sub Mult FloorDiv Mod Pow BitAnd BitOr BitXor LShift RShift Invert USub UAdd Not And Or
    Eq NotEq Lt LtE Gt GtE Is IsNot In NotIn""".split()


def files():
    return sorted(PACKAGE.glob("*.py"))


def bound_names(tree):
    """Every name that a file's code gives a meaning to, with its line."""
    for node in ast.walk(tree):
        if isinstance(node, (ast.FunctionDef, ast.ClassDef)):
            yield node.name, node.lineno
        elif isinstance(node, ast.arg):
            yield node.arg, node.lineno
        elif isinstance(node, ast.Name) and isinstance(node.ctx, ast.Store):
            yield node.id, node.lineno


def given_values(tree):
    """Every value that a file's code gives to an object, with its line."""
    for node in ast.walk(tree):
        if isinstance(node, ast.Attribute) and isinstance(node.ctx, ast.Store):
            yield node.attr, node.lineno


def methods_of(tree):
    return [inner.name for node in ast.walk(tree) if isinstance(node, ast.ClassDef)
            for inner in node.body if isinstance(inner, ast.FunctionDef)]


def calls_of(tree, names):
    return [node for node in ast.walk(tree)
            if isinstance(node, ast.Call) and isinstance(node.func, ast.Name) and node.func.id in names]


def walked_places(tree):
    """What stands where L23 lets a walk stand."""
    places = []
    for node in ast.walk(tree):
        if isinstance(node, (ast.For, ast.comprehension)):
            places.append(node.iter)
    for call in calls_of(tree, "list tuple dict sorted sum any all enumerate".split()):
        places += call.args[:1]
    for call in calls_of(tree, ["zip"]):
        places += call.args
    return places


class Language(unittest.TestCase):
    def each(self):
        for path in files():
            text = path.read_text(encoding="utf-8")
            with self.subTest(path.name):
                yield path, text, ast.parse(text)

    def test_the_folder_holds_plain_files_alone(self):
        for path in PACKAGE.iterdir():
            if path.name != "__pycache__":
                self.assertRegex(path.name, r"^[a-z0-9_]+\.py$")
        self.assertIn("__init__.py", [path.name for path in files()])

    def test_signs_words_and_sizes(self):
        for path, text, tree in self.each():
            self.assertRegex(text, r"\A[ -~\n]*\Z")
            rows = text.split("\n")
            self.assertLessEqual(len(rows), 400)
            self.assertLessEqual(max(map(len, rows)), 120)
            words = re.findall(r"\w+", text)
            self.assertEqual([word for word in words if word in BANNED_WORDS], [])
            self.assertEqual([part for part in BANNED_PARTS if part in text], [])
            for node in ast.walk(tree):
                if isinstance(node, ast.FunctionDef):
                    self.assertLessEqual(node.end_lineno - node.lineno + 1, 40, node.name)
                    self.assertEqual(node.decorator_list, [])

    def test_only_allowed_forms(self):
        for path, text, tree in self.each():
            for node in ast.walk(tree):
                self.assertIn(node.__class__.__name__, ALLOWED, getattr(node, "lineno", None))
                if isinstance(node, ast.Assign):
                    self.assertEqual(len(node.targets), 1, node.lineno)
                if isinstance(node, (ast.For, ast.While)):
                    self.assertEqual(node.orelse, [], node.lineno)
                if isinstance(node, ast.Try):
                    self.assertEqual(node.finalbody, [], node.lineno)
                if isinstance(node, ast.arguments):
                    self.assertEqual((node.vararg, node.kwarg, node.kwonlyargs, node.posonlyargs), (None, None, [], []))
                if isinstance(node, ast.Constant):
                    self.assertIn(node.value.__class__, (int, str, bool, type(None)), node.lineno)
                if isinstance(node, ast.ListComp):
                    self.assertEqual(len(node.generators), 1, node.lineno)
                    self.assertLessEqual(len(node.generators[0].ifs), 1, node.lineno)
                if isinstance(node, ast.Compare) and isinstance(node.ops[0], (ast.Is, ast.IsNot)):
                    self.assertIsInstance(node.comparators[0], ast.Constant, node.lineno)

    def test_imports(self):
        for path, text, tree in self.each():
            for node in ast.walk(tree):
                self.assertNotIsInstance(node, ast.Import)
                if isinstance(node, ast.ImportFrom):
                    self.assertEqual(node.level, 0, node.lineno)
                    self.assertTrue(node.module.startswith("shortpurse."), node.lineno)
                    self.assertNotIn("*", [alias.name for alias in node.names])

    def test_names(self):
        own_of_python = [name for name in dir(builtins) if not name.startswith("__")]
        for path, text, tree in self.each():
            imported = [alias.asname or alias.name for node in ast.walk(tree)
                        if isinstance(node, ast.ImportFrom) for alias in node.names]
            classes = [node.name for node in tree.body if isinstance(node, ast.ClassDef)]
            known = [name for name, line in bound_names(tree)] + imported
            for name, line in bound_names(tree):
                self.assertNotIn(name, own_of_python + BANNED_NAMES + imported, line)
                self.assertTrue(name in DUNDERS or not name.startswith("_"), line)
            for node in ast.walk(tree):
                if isinstance(node, ast.arg):
                    self.assertNotIn(node.arg, classes, node.lineno)
                if isinstance(node, ast.Name) and isinstance(node.ctx, ast.Store):
                    self.assertNotIn(node.id, classes, node.lineno)
                if isinstance(node, ast.Name) and isinstance(node.ctx, ast.Load):
                    self.assertIn(node.id, known + OWN_NAMES, node.lineno)
            tops = [node.name for node in tree.body if isinstance(node, (ast.FunctionDef, ast.ClassDef))] + imported
            self.assertEqual(len(tops), len(set(tops)))

    def test_methods(self):
        own = [name for path, text, tree in self.each() for node in ast.walk(tree)
               if isinstance(node, ast.ClassDef) for name, line in bound_names(node)]
        for path, text, tree in self.each():
            for node in ast.walk(tree):
                if isinstance(node, ast.Call) and isinstance(node.func, ast.Attribute):
                    self.assertIn(node.func.attr, METHODS + DUNDERS + own, node.lineno)

    def test_methods_and_values_are_told_apart(self):
        methods = [name for path, text, tree in self.each() for name in methods_of(tree)]
        for path, text, tree in self.each():
            for name, line in given_values(tree):
                self.assertNotIn(name, methods + METHODS, line)

    def test_class_bodies_hold_methods_alone(self):
        for path, text, tree in self.each():
            for node in ast.walk(tree):
                if isinstance(node, ast.ClassDef):
                    self.assertIn(node, tree.body)
                    self.assertLessEqual(len(node.bases), 1, node.lineno)
                    for inner in node.body:
                        self.assertIsInstance(inner, (ast.FunctionDef, ast.Pass), inner.lineno)
                    names = [inner.name for inner in node.body if isinstance(inner, ast.FunctionDef)]
                    self.assertEqual(len(names), len(set(names)), node.name)

    def test_imports_draw_from_the_file_that_defines_and_never_in_a_ring(self):
        trees = {"shortpurse." + path.stem: tree for path, text, tree in self.each()}
        drawn = {name: [] for name in trees}
        for name, tree in trees.items():
            for node in tree.body:
                if isinstance(node, ast.ImportFrom):
                    drawn[name].append(node.module)
                    tops = [top.name for top in trees[node.module].body if isinstance(top, (ast.FunctionDef, ast.ClassDef))]
                    for alias in node.names:
                        self.assertIn(alias.name, tops, name)
        while drawn:
            free = [name for name, others in drawn.items() if not any(other in drawn for other in others)]
            self.assertNotEqual(free, [], "files that draw from one another")
            drawn = {name: others for name, others in drawn.items() if name not in free}

    def test_sets_and_walks_are_not_kept(self):
        for path, text, tree in self.each():
            within_calls = [arg for call in calls_of(tree, ["sorted", "len"]) for arg in call.args if not call.keywords]
            for call in calls_of(tree, ["set", "frozenset"]):
                self.assertIn(call, within_calls, call.lineno)
            for call in calls_of(tree, ["zip", "enumerate", "reversed", "range"]):
                self.assertIn(call, walked_places(tree), call.lineno)

    def test_the_top_of_a_file(self):
        for path, text, tree in self.each():
            self.assertIsNotNone(ast.get_docstring(tree))
            for node in tree.body[1:]:
                self.assertIsInstance(node, (ast.ImportFrom, ast.FunctionDef, ast.ClassDef, ast.Assign), node.lineno)


if __name__ == "__main__":
    unittest.main()
