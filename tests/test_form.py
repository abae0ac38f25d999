"""The form of the package's files: those rules of its language (L1 to L28) that a plain look at the code can hold."""

import ast
import builtins
import re
import unittest
from pathlib import Path

PACKAGE = Path(__file__).resolve().parent.parent / "glazehall"

ALLOWED_BUILTINS = set(
    "len range enumerate zip min max sum abs sorted reversed int str bool list tuple dict set frozenset isinstance "
    "ord repr any all divmod Exception ValueError TypeError KeyError IndexError LookupError ZeroDivisionError "
    "ArithmeticError OverflowError RuntimeError NotImplementedError AttributeError StopIteration".split()
)
ALLOWED_METHODS = set(
    "append clear copy count endswith extend find get index insert isalnum isalpha isdigit islower isspace isupper "
    "items join keys ljust lower lstrip partition pop remove replace reverse rfind rjust rpartition rsplit rstrip "
    "setdefault split splitlines startswith strip update upper values zfill bit_length".split()
)
ALLOWED_DUNDERS = {"__init__", "__eq__", "__repr__", "__str__", "__len__"}
BAD_NAMES = {"register", "mro", "elements", "open", "input", "version_info", "with_traceback", "add_note"}
BAD_WORDS = re.compile(
    r"\b(type|typing|typing_extensions|enum|Enum|IntEnum|StrEnum|Flag|IntFlag|Generic|Protocol|ABC|ABCMeta|namedtuple"
    r"|NamedTuple|TypedDict|TYPE_CHECKING|abstractmethod)\b|dataclass|overload|contextmanager"
)
ALLOWED_NODES = (
    ast.Module, ast.ImportFrom, ast.alias, ast.FunctionDef, ast.ClassDef, ast.arguments, ast.arg, ast.Lambda,
    ast.Assign, ast.AugAssign, ast.If, ast.While, ast.For, ast.Return, ast.Break, ast.Continue, ast.Pass, ast.Raise,
    ast.Try, ast.ExceptHandler, ast.Expr, ast.Constant, ast.List, ast.Tuple, ast.Dict, ast.Set, ast.BinOp, ast.UnaryOp,
    ast.BoolOp, ast.Compare, ast.IfExp, ast.Call, ast.keyword, ast.Attribute, ast.Subscript, ast.Slice, ast.Name,
    ast.ListComp, ast.comprehension, ast.JoinedStr, ast.FormattedValue, ast.expr_context, ast.boolop, ast.unaryop,
    ast.operator, ast.cmpop,
)
TOP_STATEMENTS = (ast.ImportFrom, ast.FunctionDef, ast.ClassDef, ast.Assign)


def files():
    return sorted(PACKAGE.rglob("*.py"))


def trees():
    return [(file.relative_to(PACKAGE.parent), ast.parse(file.read_text("utf-8"))) for file in files()]


def top_names(tree):
    names = []
    for node in tree.body:
        if isinstance(node, (ast.FunctionDef, ast.ClassDef)):
            names.append(node.name)
        if isinstance(node, ast.Assign):
            names.extend(target.id for target in node.targets)
    return names


def bound_names(tree):
    found = []
    for node in ast.walk(tree):
        if isinstance(node, (ast.FunctionDef, ast.ClassDef)):
            found.append(node.name)
        elif isinstance(node, ast.arg):
            found.append(node.arg)
        elif isinstance(node, ast.Name) and isinstance(node.ctx, ast.Store):
            found.append(node.id)
        elif isinstance(node, ast.Attribute):
            found.append(node.attr)
        elif isinstance(node, ast.ExceptHandler) and node.name:
            found.append(node.name)
    return found


def is_docstring(tree, node):
    return node is tree.body[0] and isinstance(node, ast.Expr) and isinstance(node.value, ast.Constant)


class FilesTest(unittest.TestCase):
    def test_only_plain_files_lie_in_the_package(self):
        for path in PACKAGE.rglob("*"):
            if "__pycache__" in path.parts:
                continue
            with self.subTest(path=path.name):
                if path.is_dir():
                    self.assertTrue((path / "__init__.py").is_file())
                else:
                    self.assertRegex(path.name, r"^([a-z][a-z0-9_]*|__init__|__main__)\.py$")
                self.assertFalse(path.stem.startswith("test"))
                self.assertNotIn(path.stem, dir(builtins))
        self.assertTrue((PACKAGE / "__init__.py").is_file())

    def test_signs_words_and_sizes(self):
        for file in files():
            text = file.read_bytes().decode("utf-8")
            with self.subTest(file=file.name):
                self.assertRegex(text, r"\A[\n -~]*\Z")
                self.assertIsNone(BAD_WORDS.search(text))
                self.assertLessEqual(text.count("\n"), 400)
                self.assertLessEqual(max(len(row) for row in text.split("\n")), 120)


class ImportsTest(unittest.TestCase):
    def test_only_the_packages_own_names_from_where_they_are_defined(self):
        known = {}
        for path, tree in trees():
            known[".".join(path.with_suffix("").parts)] = top_names(tree)
        for path, tree in trees():
            for node in ast.walk(tree):
                if isinstance(node, ast.ImportFrom):
                    with self.subTest(path=str(path), module=node.module):
                        self.assertIn(node, tree.body)
                        self.assertEqual(node.level, 0)
                        self.assertIn(node.module, known)
                        for name in node.names:
                            self.assertIn(name.name, known[node.module])

    def test_no_two_files_draw_from_one_another(self):
        draws = {}
        for path, tree in trees():
            name = ".".join(path.with_suffix("").parts)
            draws[name] = [node.module for node in tree.body if isinstance(node, ast.ImportFrom)]
        for name in draws:
            reached = []
            ahead = list(draws[name])
            while ahead:
                module = ahead.pop()
                if module not in reached:
                    reached.append(module)
                    ahead.extend(draws[module])
            self.assertNotIn(name, reached)
        self.assertEqual(draws["glazehall.__init__"], [])


class CodeTest(unittest.TestCase):
    def test_only_allowed_statements_and_expressions(self):
        for path, tree in trees():
            for node in ast.walk(tree):
                with self.subTest(path=str(path), line=getattr(node, "lineno", 0)):
                    self.assertIsInstance(node, ALLOWED_NODES)
                    self.assertNotIsInstance(node, (ast.Div, ast.MatMult, ast.Starred))
                    if isinstance(node, ast.Assign):
                        self.assertEqual(len(node.targets), 1)
                    if isinstance(node, ast.Expr) and not is_docstring(tree, node):
                        self.assertIsInstance(node.value, ast.Call)
                    if isinstance(node, ast.Constant):
                        self.assertNotIsInstance(node.value, (float, complex, bytes))
                    if isinstance(node, (ast.For, ast.While)):
                        self.assertEqual(node.orelse, [])
                    if isinstance(node, ast.Try):
                        self.assertEqual(node.finalbody, [])
                    if isinstance(node, ast.ListComp):
                        self.assertEqual(len(node.generators), 1)
                        self.assertLessEqual(len(node.generators[0].ifs), 1)

    def test_the_top_of_a_file(self):
        for path, tree in trees():
            with self.subTest(path=str(path)):
                for node in tree.body:
                    self.assertTrue(is_docstring(tree, node) or isinstance(node, TOP_STATEMENTS))
                names = top_names(tree)
                self.assertEqual(len(names), len(set(names)))

    def test_functions_and_classes(self):
        for path, tree in trees():
            for node in ast.walk(tree):
                with self.subTest(path=str(path), line=getattr(node, "lineno", 0)):
                    if isinstance(node, (ast.FunctionDef, ast.ClassDef)):
                        self.assertEqual(node.decorator_list, [])
                    if isinstance(node, ast.FunctionDef):
                        self.assertLessEqual(node.end_lineno - node.lineno + 1, 40)
                    if isinstance(node, ast.arguments):
                        self.assertEqual((node.vararg, node.kwarg, node.kwonlyargs), (None, None, []))
                    if isinstance(node, ast.ClassDef):
                        self.assertIn(node, tree.body)
                        self.assertLessEqual(len(node.bases), 1)
                        self.assertTrue(all(isinstance(part, (ast.FunctionDef, ast.Pass)) for part in node.body))

    def test_names(self):
        for path, tree in trees():
            for name in bound_names(tree):
                with self.subTest(path=str(path), name=name):
                    if name not in ALLOWED_DUNDERS:
                        self.assertRegex(name, r"^[A-Za-z][A-Za-z0-9_]*$")
                    self.assertNotIn(name, BAD_NAMES)

    def test_names_of_pythons_own(self):
        for path, tree in trees():
            for node in ast.walk(tree):
                with self.subTest(path=str(path), line=getattr(node, "lineno", 0)):
                    if isinstance(node, ast.Name) and node.id in dir(builtins):
                        self.assertIn(node.id, ALLOWED_BUILTINS)
                        self.assertIsInstance(node.ctx, ast.Load)
                    if isinstance(node, ast.arg):
                        self.assertNotIn(node.arg, dir(builtins))

    def test_methods_of_pythons_own_values(self):
        own = []
        for path, tree in trees():
            for node in ast.walk(tree):
                if isinstance(node, ast.ClassDef):
                    own.extend(part.name for part in node.body if isinstance(part, ast.FunctionDef))
        for path, tree in trees():
            for node in ast.walk(tree):
                if isinstance(node, ast.Call) and isinstance(node.func, ast.Attribute):
                    with self.subTest(path=str(path), line=node.lineno):
                        self.assertIn(node.func.attr, ALLOWED_METHODS | set(own))

    def test_is_stands_beside_none_and_truths_alone(self):
        for path, tree in trees():
            for node in ast.walk(tree):
                if isinstance(node, ast.Compare) and any(isinstance(op, (ast.Is, ast.IsNot)) for op in node.ops):
                    with self.subTest(path=str(path), line=node.lineno):
                        sides = [node.left] + node.comparators
                        values = [side.value for side in sides if isinstance(side, ast.Constant)]
                        self.assertTrue(any(value is None or isinstance(value, bool) for value in values))


if __name__ == "__main__":
    unittest.main()
