"""The form of the package's files: the rules L1 to L28 of its language, as far as the code's own shape shows them.

Each check walks over all files of a package and tells its faults. The samples below show that each check finds what
it is there for, and leaves alone what its rule allows.
"""

import ast
import builtins
import io
import re
import tokenize
import unittest
from pathlib import Path

PACKAGE = Path(__file__).resolve().parent.parent / "glazehall"

BUILTINS = set(dir(builtins))
ERRORS = set(
    "Exception ValueError TypeError KeyError IndexError LookupError ZeroDivisionError ArithmeticError OverflowError "
    "RuntimeError NotImplementedError AttributeError StopIteration".split()
)
FUNCTIONS = set(
    "len range enumerate zip min max sum abs sorted reversed int str bool list tuple dict set frozenset isinstance "
    "ord repr any all divmod".split()
)
METHODS = set(
    "append clear copy count endswith extend find get index insert isalnum isalpha isdigit islower isspace isupper "
    "items join keys ljust lower lstrip partition pop remove replace reverse rfind rjust rpartition rsplit rstrip "
    "setdefault split splitlines startswith strip update upper values zfill bit_length".split()
)
CHANGING = set("append clear extend insert pop remove reverse setdefault update add discard".split())
WALKS = {"items", "keys", "values"}
PYTHONS_OWN = set()
for kind in (str, int, float, complex, list, tuple, dict, set, frozenset, bytes, bytearray):
    PYTHONS_OWN.update(name for name in dir(kind) if not name.startswith("_"))
FREE_VALUES = set("count index title find get join lower upper split strip copy add".split())
DUNDERS = {"__init__", "__eq__", "__repr__", "__str__", "__len__"}
TOP_DUNDERS = {"__all__", "__version__"}
UNUSED = set("register mro elements open input version_info with_traceback add_note format format_map".split())
UNUSED_NAMES = set(
    "attrgetter breakpoint builtins compile copyright credits delattr dir eval exec exit gc getattr globals hasattr "
    "help id importlib license locals methodcaller os quit setattr super type vars sys".split()
)
WORDS_NOWHERE = re.compile(
    r"\b(type|typing|typing_extensions|enum|Enum|IntEnum|StrEnum|Flag|IntFlag|Generic|Protocol|ABC|ABCMeta|namedtuple"
    r"|NamedTuple|TypedDict|TYPE_CHECKING|abstractmethod)\b|dataclass|overload|contextmanager"
)
FRAME_NAME = re.compile(r"^(f|tb|co|gi|cr|ag)_[a-z]+$")
PLAIN_NAME = re.compile(r"^[A-Za-z][A-Za-z0-9_]*$")
FILE_NAME = re.compile(r"^([a-z][a-z0-9_]*|__init__|__main__)$")
NO_FILE_NAME = re.compile(r"^(tests?|testing|test_.*|site|conftest|sitecustomize|usercustomize)$")
NODES = (
    ast.Module, ast.ImportFrom, ast.alias, ast.FunctionDef, ast.ClassDef, ast.arguments, ast.arg, ast.Lambda,
    ast.Assign, ast.AugAssign, ast.If, ast.While, ast.For, ast.Return, ast.Break, ast.Continue, ast.Pass, ast.Raise,
    ast.Try, ast.ExceptHandler, ast.Expr, ast.Constant, ast.List, ast.Tuple, ast.Dict, ast.Set, ast.BinOp, ast.UnaryOp,
    ast.BoolOp, ast.Compare, ast.IfExp, ast.Call, ast.keyword, ast.Attribute, ast.Subscript, ast.Slice, ast.Name,
    ast.ListComp, ast.comprehension, ast.JoinedStr, ast.FormattedValue, ast.expr_context, ast.boolop, ast.unaryop,
    ast.operator, ast.cmpop,
)


class File:
    """One file of the package, with what the checks ask of it."""

    def __init__(self, path, text):
        self.path = path
        self.text = text
        self.module = path.removesuffix(".py").replace("/", ".").removesuffix(".__init__")
        self.tree = ast.parse(text)
        self.nodes = list(ast.walk(self.tree))
        self.above = {}
        for node in self.nodes:
            for child in ast.iter_child_nodes(node):
                self.above[child] = node
        self.imports = {}
        for node in self.of(ast.ImportFrom):
            for alias in node.names:
                self.imports[alias.asname or alias.name] = (node.module, alias.name)
        self.classes = {node.name: node for node in self.of(ast.ClassDef)}
        self.defs = [node for node in self.tree.body if isinstance(node, ast.FunctionDef)]
        self.values = {}
        for node in self.tree.body:
            if isinstance(node, ast.Assign) and isinstance(node.targets[0], ast.Name):
                self.values[node.targets[0].id] = node.value

    def of(self, *kinds):
        return [node for node in self.nodes if isinstance(node, kinds)]

    def calls(self, *names):
        """The calls of names of Python's own."""
        return [node for node in self.of(ast.Call) if isinstance(node.func, ast.Name) and node.func.id in names]

    def within(self, node, kind):
        """The nearest node of this kind around a node, or None."""
        while node in self.above:
            node = self.above[node]
            if isinstance(node, kind):
                return node
        return None


class Whole:
    """A package: a dict from paths to texts."""

    def __init__(self, texts):
        self.files = [File(path, text) for path, text in sorted(texts.items())]
        self.classes = {name for file in self.files for name in file.classes}
        self.methods = set()
        self.values = set()
        for file in self.files:
            for node in file.of(ast.ClassDef):
                self.methods.update(part.name for part in node.body if isinstance(part, ast.FunctionDef))
            self.values.update(node.attr for node in file.of(ast.Attribute) if isinstance(node.ctx, ast.Store))

    def errors(self):
        """The package's own error classes: those that stand under one of Python's, in however many steps."""
        bases = {}
        for file in self.files:
            for name, node in file.classes.items():
                bases[name] = [base.id for base in node.bases if isinstance(base, ast.Name)]
        found = set(ERRORS)
        for step in range(len(bases)):
            found.update(name for name in bases if any(base in found for base in bases[name]))
        return found - ERRORS


def is_docstring(file, node):
    body = file.above[node].body if isinstance(file.above[node], (ast.Module, ast.FunctionDef)) else [None]
    return node is body[0] and isinstance(node.value, ast.Constant) and isinstance(node.value.value, str)


def is_plain(node, functions):
    if isinstance(node, ast.Constant):
        return node.value is None or isinstance(node.value, (int, str))
    if isinstance(node, ast.UnaryOp):
        return isinstance(node.op, ast.USub) and isinstance(node.operand, ast.Constant)
    if isinstance(node, (ast.List, ast.Tuple)):
        return all(is_plain(part, functions) for part in node.elts)
    if isinstance(node, ast.Dict):
        return all(part is not None and is_plain(part, functions) for part in node.keys + node.values)
    return isinstance(node, ast.Name) and node.id in functions


def root(node):
    while isinstance(node, (ast.Attribute, ast.Subscript)):
        node = node.value
    return node


def files_and_signs(whole, told):
    for file in whole.files:
        for part in file.path.removesuffix(".py").split("/"):
            if not FILE_NAME.match(part):
                told("L1", file, None)
            if NO_FILE_NAME.match(part) or part in BUILTINS or WORDS_NOWHERE.fullmatch(part):
                told("L14", file, None)
        if not re.fullmatch(r"[\n -~]*", file.text):
            told("L14", file, None)
        if WORDS_NOWHERE.search(file.text):
            told("L17", file, None)
        rows = file.text.split("\n")
        if len(rows) > 401 or "\t" in file.text or any(len(row) > 120 for row in rows):
            told("L10", file, None)
        for node in file.of(ast.FunctionDef):
            if node.end_lineno - node.lineno + 1 > 40:
                told("L10", file, node)


def imports(whole, told):
    known = {file.module: file for file in whole.files}
    draws = {}
    for file in whole.files:
        draws[file.module] = set()
        body = [node for node in file.tree.body if not isinstance(node, ast.Expr)]
        for place, node in enumerate(body):
            if isinstance(node, ast.ImportFrom) and any(not isinstance(one, ast.ImportFrom) for one in body[:place]):
                told("L2", file, node)
        for node in file.of(ast.Import):
            told("L16", file, node)
        for node in file.of(ast.ImportFrom):
            if node.level or node not in file.tree.body or node.module not in known:
                told("L2", file, node)
                continue
            drawn = known[node.module]
            for alias in node.names:
                if alias.name == "*":
                    told("L2", file, node)
                elif alias.name not in set(drawn.values) | set(drawn.classes) | {one.name for one in drawn.defs}:
                    told("L16", file, node)
            parts = node.module.split(".")
            draws[file.module].update(".".join(parts[:many]) for many in range(1, len(parts) + 1))
        if file.path.endswith("__init__.py"):
            inside = {one.rpartition(".")[2] for one in known if one.rpartition(".")[0] == file.module}
            if inside & (set(file.imports) | set(file.values) | set(file.classes) | {one.name for one in file.defs}):
                told("L16", file, None)
    for file in whole.files:
        reached, ahead = set(), list(draws[file.module])
        while ahead:
            module = ahead.pop()
            if module not in reached:
                reached.add(module)
                ahead.extend(draws.get(module, ()))
        if file.module in reached:
            told("L16", file, None)


def tops(whole, told):
    for file in whole.files:
        functions = set()
        names = list(file.imports)
        for node in file.tree.body:
            if isinstance(node, (ast.FunctionDef, ast.ClassDef)):
                names.append(node.name)
                functions.add(node.name)
            elif isinstance(node, ast.Assign):
                if not isinstance(node.targets[0], ast.Name) or not is_plain(node.value, functions - set(file.classes)):
                    told("L3", file, node)
                names.extend(target.id for target in node.targets if isinstance(target, ast.Name))
            elif not isinstance(node, ast.ImportFrom) and not (isinstance(node, ast.Expr) and is_docstring(file, node)):
                told("L3", file, node)
        if len(names) != len(set(names)):
            told("L15", file, None)
        for value in file.values.values():
            if isinstance(value, (ast.List, ast.Dict)):
                if any(isinstance(part, (ast.List, ast.Dict)) for part in ast.walk(value) if part is not value):
                    told("L15", file, value)


READING_CALLS = set("len sorted list dict tuple set sum min max any all enumerate zip reversed".split())
READING_METHODS = {"get", "items", "keys", "values", "index", "count", "copy"}


def only_reads(file, node):
    above = file.above[node]
    if isinstance(above, ast.Subscript):
        return above.value is node and isinstance(above.ctx, ast.Load)
    if isinstance(above, (ast.For, ast.comprehension)):
        return above.iter is node
    if isinstance(above, ast.Compare):
        return all(isinstance(op, (ast.In, ast.NotIn, ast.Eq, ast.NotEq)) for op in above.ops)
    if isinstance(above, ast.Call):
        return isinstance(above.func, ast.Name) and above.func.id in READING_CALLS
    return isinstance(above, ast.Attribute) and above.attr in READING_METHODS


def tops_only_read(whole, told):
    kept = {(file.module, name) for file in whole.files for name, value in file.values.items()
            if isinstance(value, (ast.List, ast.Dict))}
    for file in whole.files:
        for node in file.of(ast.Name):
            place = file.imports.get(node.id, (file.module, node.id))
            if place in kept and isinstance(node.ctx, ast.Load) and not only_reads(file, node):
                told("L15", file, node)


def local_names(file):
    found = [(node, node.arg) for node in file.of(ast.arg)]
    found += [(node, node.name) for node in file.of(ast.ExceptHandler) if node.name]
    found += [(node, node.id) for node in file.of(ast.Name)
              if isinstance(node.ctx, ast.Store) and file.within(node, (ast.FunctionDef, ast.ListComp))]
    found += [(node, node.name) for node in file.of(ast.FunctionDef) if file.within(node, ast.FunctionDef)]
    return found


def names(whole, told):
    for file in whole.files:
        for node, name in local_names(file):
            if name in file.classes or name in file.imports or name in BUILTINS:
                told("L15", file, node)
        for node in file.of(ast.ClassDef):
            if node not in file.tree.body:
                told("L15", file, node)
        bound = local_names(file) + [(node, node.attr) for node in file.of(ast.Attribute)]
        bound += [(node, node.id) for node in file.of(ast.Name)]
        bound += [(node, node.name) for node in file.of(ast.FunctionDef, ast.ClassDef)]
        for node, name in bound:
            if not PLAIN_NAME.match(name) and name not in DUNDERS | TOP_DUNDERS | {"__name__"}:
                told("L12", file, node)
            if name in UNUSED or FRAME_NAME.match(name):
                told("L17", file, node)
            if name in UNUSED_NAMES and not isinstance(node, ast.Attribute):
                told("L17", file, node)
        for node in file.of(ast.Name):
            if node.id in BUILTINS and (node.id not in FUNCTIONS | ERRORS or not isinstance(node.ctx, ast.Load)):
                told("L8", file, node)


def functions(whole, told):
    for file in whole.files:
        for node in file.of(ast.arguments):
            if node.vararg or node.kwarg or node.kwonlyargs or node.posonlyargs:
                told("L4", file, file.above[node])
            if not all(is_plain(value, ()) for value in node.defaults):
                told("L4", file, file.above[node])
        for node in file.of(ast.FunctionDef, ast.ClassDef):
            if node.decorator_list:
                told("L4", file, node)
        for node in file.of(ast.FunctionDef):
            if node.returns is not None:
                told("L21", file, node)
        for node in file.of(ast.arg):
            if node.annotation is not None:
                told("L21", file, node)
        for node in file.of(ast.AnnAssign):
            told("L21", file, node)


def classes(whole, told):
    errors = whole.errors()
    for file in whole.files:
        for node in file.of(ast.ClassDef):
            methods = [part.name for part in node.body if isinstance(part, ast.FunctionDef)]
            bases = [base.id if isinstance(base, ast.Name) else "" for base in node.bases]
            if len(bases) > 1 or node.keywords or any(base not in whole.classes | ERRORS for base in bases):
                told("L5", file, node)
            if not all(isinstance(part, (ast.FunctionDef, ast.Pass)) for part in node.body):
                told("L5", file, node)
            if any(name.startswith("_") and name not in DUNDERS for name in methods):
                told("L5", file, node)
            if len(methods) != len(set(methods)) or set(bases) & {"StopIteration", "AttributeError"}:
                told("L18", file, node)
            if any(name in PYTHONS_OWN - METHODS - {"add", "discard"} for name in methods):
                told("L26", file, node)
        for node in file.of(ast.Name):
            if node.id in whole.classes and not class_stands_well(file, node):
                told("L18", file, node)
        for node in file.of(ast.Attribute, ast.Subscript):
            if isinstance(node.ctx, ast.Store):
                base = root(node)
                tops = set(file.values) | set(file.imports) | set(file.classes) | {one.name for one in file.defs}
                if not isinstance(base, ast.Name) or base.id in tops:
                    told("L18", file, node)
        for node in file.of(ast.Attribute):
            if isinstance(node.ctx, ast.Store) and node.attr in whole.methods:
                told("L18", file, node)
            if isinstance(node.ctx, ast.Store) and node.attr in (PYTHONS_OWN | {"args"}) - FREE_VALUES:
                told("L26", file, node)
        for node in file.of(ast.Raise):
            if isinstance(node.exc, ast.Call) and isinstance(node.exc.func, ast.Name):
                if node.exc.func.id in errors | ERRORS and not node.exc.keywords:
                    continue
            told("L19", file, node)


def class_stands_well(file, node):
    above = file.above[node]
    if isinstance(above, ast.Tuple):
        node, above = above, file.above[above]
        if isinstance(above, ast.ExceptHandler):
            return above.type is node
        return is_isinstance(above) and above.args[1] is node
    if isinstance(above, ast.Attribute):
        return above.attr == "__init__" and isinstance(file.above[above], ast.Call)
    if isinstance(above, ast.Call):
        return above.func is node or is_isinstance(above) and above.args[1] is node
    return isinstance(above, ast.ClassDef) or isinstance(above, ast.ExceptHandler)


def is_isinstance(node):
    return isinstance(node, ast.Call) and isinstance(node.func, ast.Name) and node.func.id == "isinstance"


def statements(whole, told):
    for file in whole.files:
        for node in file.nodes:
            if not isinstance(node, NODES):
                told("L6" if isinstance(node, ast.stmt) else "L7", file, node)
            if isinstance(node, (ast.Div, ast.MatMult)):
                told("L7", file, None)
        for node in file.of(ast.Assign):
            if len(node.targets) != 1:
                told("L6", file, node)
        for node in file.of(ast.Expr):
            if not isinstance(node.value, ast.Call) and not is_docstring(file, node):
                told("L6", file, node)
        for node in file.of(ast.For, ast.While):
            if node.orelse:
                told("L6", file, node)
        for node in file.of(ast.Try):
            if node.finalbody or not node.handlers:
                told("L6", file, node)
        for node in file.of(ast.Constant):
            if not (node.value is None or isinstance(node.value, (int, str))):
                told("L7", file, node)
        for node in file.of(ast.ListComp):
            if len(node.generators) != 1 or len(node.generators[0].ifs) > 1:
                told("L7", file, node)
        for node in file.of(ast.FormattedValue):
            if not isinstance(node.value, ast.Name) or node.conversion not in (-1, ord("r")) or node.format_spec:
                told("L7", file, node)
        for node in file.of(ast.Compare):
            if any(isinstance(op, (ast.Is, ast.IsNot)) for op in node.ops):
                values = [side.value for side in [node.left] + node.comparators if isinstance(side, ast.Constant)]
                if not any(value is None or isinstance(value, bool) for value in values):
                    told("L20", file, node)


def lambdas(whole, told):
    for file in whole.files:
        seen = set()
        for node in file.of(ast.Lambda):
            place = (node.lineno, ast.dump(node.args))
            if place in seen:
                told("L13", file, node)
            seen.add(place)


def set_stands_well(file, node):
    above = file.above[node]
    while isinstance(above, ast.BinOp) and isinstance(above.op, (ast.Sub, ast.BitAnd, ast.BitOr, ast.BitXor)):
        node, above = above, file.above[above]
    if isinstance(above, ast.Compare):
        return all(isinstance(op, (ast.In, ast.NotIn, ast.Eq, ast.NotEq)) for op in above.ops)
    return above in file.calls("sorted", "len") and not above.keywords


def sets(whole, told):
    for file in whole.files:
        for node in file.of(ast.Set) + file.calls("set", "frozenset"):
            if not set_stands_well(file, node):
                told("L24", file, node)
        for node in file.of(ast.Set):
            numbers = [part for part in node.elts if isinstance(part, ast.Constant) and isinstance(part.value, int)]
            above = file.above[node]
            asked = isinstance(above, ast.Compare) and all(isinstance(op, (ast.In, ast.NotIn)) for op in above.ops)
            if len(numbers) > 2 and not asked:
                told("L13", file, node)
            if not file.within(node, ast.FunctionDef):
                told("L7", file, node)


def called(handler):
    if isinstance(handler, ast.Tuple):
        return [part.id if isinstance(part, ast.Name) else "" for part in handler.elts]
    return [handler.id if isinstance(handler, ast.Name) else ""]


def try_is_narrow(body, kinds):
    """Whether a try holds one statement that does but what these errors of Python's own may be taken for."""
    parts = [part for statement in body for part in ast.walk(statement)]
    banned = (ast.JoinedStr, ast.Slice, ast.Lambda, ast.Mult, ast.Pow, ast.Mod, ast.LShift, ast.RShift)
    if len(body) != 1 or any(isinstance(part, banned) for part in parts):
        return False
    calls = [part.func for part in parts if isinstance(part, ast.Call)]
    if "IndexError" in kinds and calls:
        return False
    return all(isinstance(one, ast.Name) and one.id in ("int", "str") or
               isinstance(one, ast.Attribute) and one.attr in ("index", "remove") for one in calls)


def handlers(whole, told):
    allowed = whole.errors() | {"KeyError", "ZeroDivisionError", "StopIteration"}
    narrow = {"ValueError", "LookupError", "IndexError"}
    for file in whole.files:
        for node in file.of(ast.Try):
            kinds = [name for handler in node.handlers for name in called(handler.type)]
            if not set(kinds) <= allowed | narrow:
                told("L19", file, node)
            if set(kinds) & narrow and not try_is_narrow(node.body, kinds):
                told("L19", file, node)
        for node in file.of(ast.Raise):
            handler = file.within(node, ast.ExceptHandler)
            if isinstance(node.cause, ast.Name) and (handler is None or handler.name != node.cause.id):
                told("L19", file, node)


KEY_FUNCTIONS = {"len", "int", "str", "abs", "sum", "min", "max", "tuple"}
KINDS = {"int", "str", "bool", "list", "tuple", "dict"}
KEYWORDS = {
    "sorted": {"key", "reverse"}, "min": {"key", "default"}, "max": {"key", "default"}, "sum": {"start"},
    "enumerate": {"start"}, "zip": {"strict"},
}


def own_name_stands_well(file, node):
    above = file.above[node]
    if isinstance(above, ast.keyword):
        return above.arg == "key" and node.id in KEY_FUNCTIONS
    if isinstance(above, ast.Tuple):
        node_above = file.above[above]
        return is_isinstance(node_above) and node_above.args[1] is above and node.id in KINDS
    if is_isinstance(above) and above.func is not node:
        return above.args[1] is node and node.id in KINDS
    return isinstance(above, ast.Call) and above.func is node


def pythons_own_calls(whole, told):
    for file in whole.files:
        for node in file.of(ast.Name):
            if node.id in FUNCTIONS and not own_name_stands_well(file, node):
                told("L22", file, node)
        for node in file.of(ast.Call):
            given = {keyword.arg for keyword in node.keywords}
            if isinstance(node.func, ast.Name) and node.func.id in FUNCTIONS:
                if given - KEYWORDS.get(node.func.id, set()):
                    told("L22", file, node)
            if isinstance(node.func, ast.Attribute) and node.func.attr in METHODS and given:
                told("L22", file, node)
            if isinstance(node.func, ast.Name) and node.func.id in whole.errors() and given:
                told("L22", file, node)
            for keyword in node.keywords:
                if keyword.arg in ("reverse", "strict") and not isinstance(keyword.value, ast.Constant):
                    told("L22", file, node)


def walked_at_once(file, node):
    above = file.above[node]
    if isinstance(above, (ast.For, ast.comprehension)):
        return above.iter is node
    if not isinstance(above, ast.Call) or not above.args or above.args[0] is not node:
        return False
    if isinstance(above.func, ast.Attribute):
        return above.func.attr == "join" and isinstance(above.func.value, ast.Constant)
    if above.func.id in ("min", "max"):
        return len(above.args) == 1
    return above.func.id in set("list tuple dict sorted sum any all enumerate zip".split())


def walked_things(node):
    """What a loop walks, also through enumerate, zip, reversed, items, keys and values."""
    if isinstance(node, ast.Call) and isinstance(node.func, ast.Name):
        if node.func.id in ("enumerate", "zip", "reversed"):
            return [thing for part in node.args for thing in walked_things(part)]
        return []
    if isinstance(node, ast.Call) and isinstance(node.func, ast.Attribute):
        return [ast.unparse(node.func.value)] if node.func.attr in WALKS else []
    return [ast.unparse(node)] if isinstance(node, (ast.Name, ast.Attribute, ast.Subscript)) else []


def changed_things(body):
    found = []
    for statement in body:
        for node in ast.walk(statement):
            if isinstance(node, ast.Subscript) and isinstance(node.ctx, ast.Store):
                found.append(ast.unparse(node.value))
            if isinstance(node, ast.AugAssign):
                found.append(ast.unparse(node.target))
            if isinstance(node, ast.Call) and isinstance(node.func, ast.Attribute) and node.func.attr in CHANGING:
                found.append(ast.unparse(node.func.value))
    return found


def walks(whole, told):
    for file in whole.files:
        asked = [node for node in file.of(ast.Call) if isinstance(node.func, ast.Attribute) and node.func.attr in WALKS]
        for node in file.calls("zip", "enumerate", "reversed", "range") + asked:
            if not walked_at_once(file, node):
                told("L23", file, node)
        for node in file.of(ast.For):
            if set(walked_things(node.iter)) & set(changed_things(node.body)):
                told("L23", file, node)


def methods(whole, told):
    for file in whole.files:
        for node in file.of(ast.Attribute):
            above = file.above[node]
            is_called = isinstance(above, ast.Call) and above.func is node
            is_key = isinstance(above, ast.keyword) and above.arg == "key"
            if is_called and node.attr not in METHODS | whole.methods:
                told("L25", file, node)
            if isinstance(node.ctx, ast.Load) and not is_called and not is_key and node.attr not in whole.values:
                told("L25", file, node)


def numbers_and_texts(whole, told):
    for file in whole.files:
        for node in file.of(ast.BinOp, ast.AugAssign):
            if isinstance(node.op, ast.Pow):
                power = node.right if isinstance(node, ast.BinOp) else node.value
                if not isinstance(power, ast.Constant) or power.value not in range(65):
                    told("L27", file, node)
        for node in file.of(ast.Constant):
            if isinstance(node.value, str) and "%" in node.value:
                told("L27", file, node)
            if isinstance(node.value, int) and abs(node.value) >= 10 ** 900:
                told("L27", file, node)
        for token in tokenize.generate_tokens(io.StringIO(file.text).readline):
            if token.type != tokenize.COMMENT and re.search(r"\\[^nt\\'\"]", token.string.replace("\\\\", "")):
                told("L27", file, None)


def is_text(node):
    if isinstance(node, ast.JoinedStr) or isinstance(node, ast.Constant) and isinstance(node.value, str):
        return True
    if not isinstance(node, ast.Call):
        return False
    if isinstance(node.func, ast.Name):
        return node.func.id in ("str", "repr")
    return node.func.attr == "join" and isinstance(node.func.value, ast.Constant)


def is_length(node):
    if isinstance(node, ast.Constant):
        return isinstance(node.value, int)
    return isinstance(node, ast.Call) and isinstance(node.func, ast.Name) and node.func.id == "len"


def special_methods(whole, told):
    for file in whole.files:
        for node in [one for one in file.of(ast.FunctionDef) if one.name in DUNDERS]:
            returns = [part.value for part in ast.walk(node) if isinstance(part, ast.Return)]
            if node.name == "__init__":
                if any(value is not None for value in returns):
                    told("L28", file, node)
                continue
            for part in ast.walk(node):
                stores = isinstance(part, (ast.Attribute, ast.Subscript)) and isinstance(part.ctx, ast.Store)
                changes = isinstance(part, ast.Call) and isinstance(part.func, ast.Attribute) and part.func.attr in CHANGING
                if stores or changes or isinstance(part, ast.AugAssign):
                    told("L28", file, node)
            if node.name in ("__repr__", "__str__") and not all(is_text(value) for value in returns):
                told("L28", file, node)
            if node.name == "__len__" and not all(is_length(value) for value in returns):
                told("L28", file, node)


CHECKS = (
    files_and_signs, imports, tops, tops_only_read, names, functions, classes, statements, lambdas, sets, handlers,
    pythons_own_calls, walks, methods, numbers_and_texts, special_methods,
)


def faults(texts):
    found = []

    def told(rule, file, node):
        found.append((rule, file.path, getattr(node, "lineno", 0)))

    whole = Whole(texts)
    for check in CHECKS:
        check(whole, told)
    return sorted(set(found))


def texts_of_the_package():
    return {str(path.relative_to(PACKAGE.parent)): path.read_bytes().decode("utf-8") for path in PACKAGE.rglob("*.py")}


class PackageTest(unittest.TestCase):
    def test_only_files_of_the_program_lie_in_the_package(self):
        for path in PACKAGE.rglob("*"):
            if "__pycache__" in path.parts:
                continue
            with self.subTest(path=path.name):
                if path.is_dir():
                    self.assertTrue((path / "__init__.py").is_file())
                else:
                    self.assertEqual(path.suffix, ".py")
        self.assertTrue((PACKAGE / "__init__.py").is_file())

    def test_the_files_keep_to_every_rule(self):
        self.assertEqual(faults(texts_of_the_package()), [])

    def test_every_file_is_looked_at(self):
        for name in (
            "__init__", "errors", "fractions", "shades", "wholes", "rules", "manners", "tiles", "plans", "keeps",
            "strokes", "moves", "ones", "layers", "rows", "hall", "bundles",
        ):
            self.assertIn("glazehall/" + name + ".py", texts_of_the_package())


# Each row: the rule, and a text that breaks it.
BROKEN = (
    ("L2", "def f():\n    from glazehall.other import one\n    return one()\n"),
    ("L2", "from glazehall.missing import one\n"),
    ("L2", "from math import gcd\n"),
    ("L2", "from .other import one\n"),
    ("L2", "from glazehall.other import *\n"),
    ("L2", "A = 1\nfrom glazehall.other import one\n"),
    ("L3", "A = 1 + 1\n"),
    ("L3", "A = list(())\n"),
    ("L3", "if True:\n    pass\n"),
    ("L3", "A, B = 1, 2\n"),
    ("L3", "A = (f,)\n\n\ndef f():\n    return 1\n"),
    ("L4", "def f(*xs):\n    return xs\n"),
    ("L4", "def f(**xs):\n    return xs\n"),
    ("L4", "def f(*, x):\n    return x\n"),
    ("L4", "def f(x=len(())):\n    return x\n"),
    ("L4", "def d(x):\n    return x\n\n\n@d\ndef f():\n    return 1\n"),
    ("L5", "class A:\n    many = 1\n"),
    ("L5", "class A(int):\n    pass\n"),
    ("L5", "class A:\n    pass\n\n\nclass B:\n    pass\n\n\nclass C(A, B):\n    pass\n"),
    ("L5", "class A:\n    def __hash__(self):\n        return 1\n"),
    ("L6", "def f(x):\n    assert x\n"),
    ("L6", "def f(x):\n    del x[0]\n"),
    ("L6", "def f():\n    a = b = 1\n    return a + b\n"),
    ("L6", "def f(x):\n    x\n"),
    ("L6", "def f(x):\n    for y in x:\n        pass\n    else:\n        pass\n"),
    ("L6", "def f(x):\n    try:\n        x()\n    finally:\n        pass\n"),
    ("L6", "def f(x):\n    with x:\n        pass\n"),
    ("L6", "def f():\n    global A\n"),
    ("L7", "def f(x):\n    return x / 2\n"),
    ("L7", "def f():\n    return 1.5\n"),
    ("L7", "def f():\n    return b'a'\n"),
    ("L7", "def f(x):\n    return all(y for y in x)\n"),
    ("L7", "def f(x):\n    return {y: y for y in x}\n"),
    ("L7", "def f(x):\n    return [y for z in x for y in z]\n"),
    ("L7", "def f(x):\n    return f'{x.y}'\n"),
    ("L7", "def f(x):\n    return f'{x:3}'\n"),
    ("L7", "def f(x):\n    return (y := x)\n"),
    ("L7", "def f(x):\n    return [*x]\n"),
    ("L8", "def f(x):\n    return hash(x)\n"),
    ("L8", "def f(x):\n    print(x)\n"),
    ("L8", "def f(x):\n    return map(f, x)\n"),
    ("L8", "def f(x):\n    return chr(x)\n"),
    ("L10", "def f(x):\n" + "    x = x + 1\n" * 40 + "    return x\n"),
    ("L10", "# " + "a" * 119 + "\n"),
    ("L10", "# a\n" * 401),
    ("L10", "def f():\n\treturn 1\n"),
    ("L12", "def f(_x):\n    return 1\n"),
    ("L12", "def f(xs):\n    return [1 for _ in xs]\n"),
    ("L12", "class A:\n    def __init__(self):\n        self._x = 1\n"),
    ("L13", "def f():\n    return {1, 2, 3}\n"),
    ("L13", "def f(g):\n    return g(lambda x: x, lambda x: 1)\n"),
    ("L14", "# \u00e9\n"),
    ("L15", "A = 1\nA = 2\n"),
    ("L15", "A = 1\n\n\ndef A():\n    return 1\n"),
    ("L15", "A = [[1]]\n"),
    ("L15", "A = {1: {2: 3}}\n"),
    ("L15", "A = [1]\n\n\ndef f():\n    A.append(2)\n"),
    ("L15", "A = [1]\n\n\ndef f():\n    A[0] = 2\n"),
    ("L15", "A = [1]\n\n\ndef f():\n    return A\n"),
    ("L15", "from glazehall.other import KEPT\n\n\ndef f():\n    return KEPT\n"),
    ("L15", "def f(min):\n    return min\n"),
    ("L15", "def f():\n    next = 1\n    return next\n"),
    ("L15", "from glazehall.other import one\n\n\ndef f(one):\n    return one\n"),
    ("L15", "class A:\n    pass\n\n\ndef f(xs):\n    return [A for A in xs]\n"),
    ("L15", "def f():\n    class A:\n        pass\n    return A()\n"),
    ("L16", "from glazehall.other import missing\n"),
    ("L16", "import glazehall.other\n"),
    ("L16", "from glazehall.sample import f\n\n\ndef f():\n    return 1\n"),
    ("L17", "# a type\n"),
    ("L17", "A = 'some enum'\n"),
    ("L17", "def f(x):\n    return x.f_back\n"),
    ("L17", "def f(os):\n    return os\n"),
    ("L17", "class A:\n    def register(self):\n        return 1\n"),
    ("L18", "class A:\n    pass\n\n\ndef f():\n    return [A]\n"),
    ("L18", "class A:\n    pass\n\n\ndef f():\n    return A\n"),
    ("L18", "class A:\n    pass\n\n\ndef f():\n    A.x = 1\n"),
    ("L18", "class A:\n    def f(self):\n        return 1\n\n    def f(self):\n        return 2\n"),
    ("L18", "class A:\n    def x(self):\n        return 1\n\n\nclass B:\n    def __init__(self):\n        self.x = 1\n"),
    ("L18", "class A(StopIteration):\n    pass\n"),
    ("L19", "def f():\n    raise ValueError\n"),
    ("L19", "def f(e):\n    raise e\n"),
    ("L19", "def f(x):\n    try:\n        return x[0]\n    except Exception:\n        return 1\n"),
    ("L19", "def f(x):\n    try:\n        return x[0]\n    except:\n        return 1\n"),
    ("L19", "def f(x):\n    try:\n        return f(x)\n    except ValueError:\n        return 1\n"),
    ("L19", "def f(x):\n    try:\n        return x[f(0)]\n    except IndexError:\n        return 1\n"),
    ("L19", "def f(x):\n    try:\n        return int(x) * 2\n    except ValueError:\n        return 1\n"),
    ("L19", "def f(x, e):\n    raise ValueError('x') from e\n"),
    ("L20", "def f(x, y):\n    return x is y\n"),
    ("L21", "def f(x: int):\n    return x\n"),
    ("L21", "def f(x) -> int:\n    return x\n"),
    ("L21", "def f():\n    x: int = 1\n    return x\n"),
    ("L22", "def f():\n    g = len\n    return g(())\n"),
    ("L22", "def f(x):\n    return isinstance(x, set)\n"),
    ("L22", "def f(x):\n    return sorted(x, key=repr)\n"),
    ("L22", "def f(x):\n    return int(x, base=3)\n"),
    ("L22", "def f(x, y):\n    return sorted(x, reverse=y)\n"),
    ("L22", "def f(x):\n    return x.split(sep=' ')\n"),
    ("L23", "def f(x):\n    y = zip(x, x)\n    return y\n"),
    ("L23", "def f(x):\n    return x.items()\n"),
    ("L23", "def f(x):\n    return 1 in range(x)\n"),
    ("L23", "def f(x):\n    for y in x:\n        x.append(y)\n"),
    ("L23", "def f(x):\n    for k, y in enumerate(x):\n        x[k] = y + 1\n"),
    ("L23", "def f(x):\n    for k in x.keys():\n        x.pop(k)\n        return\n"),
    ("L24", "def f(x):\n    y = set(x)\n    return len(y)\n"),
    ("L24", "def f(x):\n    for y in set(x):\n        f(y)\n"),
    ("L24", "def f(x):\n    return sorted(set(x), reverse=True)\n"),
    ("L25", "def f(x):\n    x.sort()\n"),
    ("L25", "def f(x):\n    return x.title()\n"),
    ("L25", "def f(x):\n    y = x.append\n    return y(1)\n"),
    ("L25", "def f(x):\n    return x.real\n"),
    ("L26", "class A:\n    def sort(self):\n        return 1\n"),
    ("L26", "class A:\n    def __init__(self):\n        self.keys = []\n"),
    ("L26", "class A:\n    def __init__(self):\n        self.args = ()\n"),
    ("L27", "def f(n):\n    return 2 ** n\n"),
    ("L27", "def f(n):\n    return n ** 65\n"),
    ("L27", "A = '%'\n"),
    ("L27", "A = '\\x41'\n"),
    ("L27", "A = 1" + "0" * 900 + "\n"),
    ("L28", "class A:\n    def __init__(self):\n        return None\n"),
    ("L28", "class A:\n    def __len__(self):\n        return f(self)\n"),
    ("L28", "class A:\n    def __repr__(self):\n        return self.x\n"),
    ("L28", "class A:\n    def __eq__(self, other):\n        self.x = 1\n        return True\n"),
)

OTHER = '"""Another file."""\n\nKEPT = [1, 2]\n\n\nclass Refused(ValueError):\n    pass\n\n\ndef one():\n    return 1\n'

KEPT_TO = '''"""What the rules allow."""

from glazehall.other import KEPT, Refused, one

LOW = -1
NAMES = ("a", ("b", None), True)
TABLE = {"a": (1, 2), "b": (3, 4)}


def twice(x, much=2, names=("a",)):
    """A docstring."""
    def inner(y):
        return y * much
    return inner(x) + len(names) + one() + KEPT[0] + sum([number for number in KEPT if number > 1])


class Base:
    def __init__(self, xs):
        self.xs = list(xs)
        self.count = 0

    def __len__(self):
        return len(self.xs)

    def __repr__(self):
        return f"{LOW} and {LOW!r}"

    def get(self, place):
        try:
            return self.xs[place]
        except IndexError:
            raise Refused("not there\\n") from None

    def add(self, x):
        self.xs.append(x)
        self.xs[0] = x
        self.count += 1


class Under(Base):
    def __init__(self, xs):
        Base.__init__(self, xs)


def number_of(text):
    try:
        return int(text)
    except ValueError as e:
        raise Refused("no number") from e


def walked(d, xs):
    found = []
    for key, x in d.items():
        found.append((key, x))
    for place, x in enumerate(list(xs), start=1):
        xs.append(x + place)
    for a, b in zip(reversed(found), xs, strict=False):
        found = found + [(a, b)]
    largest = max(d.values())
    words = ", ".join(d.keys())
    return (sorted(found, key=lambda pair: pair[0], reverse=True), largest, words, 2 ** 64)


def asked(x, xs):
    if isinstance(x, (int, str)) and not isinstance(x, bool) or isinstance(x, Base):
        return x in {1, 2, 3} or set(xs) == set(NAMES) or len(set(xs) - set(TABLE)) > 0
    return x is None or dict(TABLE).get(x) is not None
'''


class SamplesTest(unittest.TestCase):
    def faults_of(self, text):
        texts = {"glazehall/__init__.py": "", "glazehall/other.py": OTHER, "glazehall/sample.py": text}
        return faults(texts)

    def test_each_broken_rule_is_told(self):
        for rule, text in BROKEN:
            with self.subTest(rule=rule, text=text[:200]):
                self.assertIn(rule, [fault[0] for fault in self.faults_of(text)])

    def test_what_is_allowed_is_not_told(self):
        self.assertEqual(self.faults_of(KEPT_TO), [])

    def test_file_names(self):
        for path, rule in (
            ("glazehall/Sample.py", "L1"), ("glazehall/a-b.py", "L1"), ("glazehall/test_a.py", "L14"),
            ("glazehall/tests/a.py", "L14"), ("glazehall/filter.py", "L14"), ("glazehall/enum.py", "L14"),
        ):
            with self.subTest(path=path):
                self.assertIn(rule, [fault[0] for fault in faults({"glazehall/__init__.py": "", path: ""})])

    def test_files_that_draw_from_one_another(self):
        one = "from glazehall.two import g\n\n\ndef f():\n    return g()\n"
        two = "from glazehall.one import f\n\n\ndef g():\n    return f()\n"
        found = faults({"glazehall/__init__.py": "", "glazehall/one.py": one, "glazehall/two.py": two})
        self.assertEqual([fault[:2] for fault in found], [("L16", "glazehall/one.py"), ("L16", "glazehall/two.py")])

    def test_an_init_that_draws_from_its_own_files(self):
        init = "from glazehall.one import f\n"
        one = "from glazehall.two import g\n\n\ndef f():\n    return g()\n"
        two = "def g():\n    return 1\n"
        found = faults({"glazehall/__init__.py": init, "glazehall/one.py": one, "glazehall/two.py": two})
        self.assertIn("L16", [fault[0] for fault in found])


if __name__ == "__main__":
    unittest.main()
