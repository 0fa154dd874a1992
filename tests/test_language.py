"""The package keeps to ../shared/LANGUAGE.md: most of its rules, not all of them.

Where a rule allows something in narrow places only, and the package has no need of it
(sets, annotations), this asks for more: that it is not there at all.
Not looked for: changes of what a loop walks (L23) or of a list or dict of a file's top (L15),
how classes are handed on (L18), what stands within a try beyond one statement (L19),
where isinstance and keywords take which values (L22), and all but __init__ of L28.
"""

import ast
import builtins
import pathlib
import re
import unittest

PACKAGE = pathlib.Path(__file__).resolve().parent.parent / "recordgate"

STATEMENTS = (
    ast.FunctionDef, ast.ClassDef, ast.Return, ast.Assign, ast.AugAssign, ast.If, ast.While, ast.For,
    ast.Break, ast.Continue, ast.Pass, ast.Raise, ast.Try, ast.Expr, ast.ImportFrom,
)
EXPRESSIONS = (
    ast.BoolOp, ast.BinOp, ast.UnaryOp, ast.Lambda, ast.IfExp, ast.Dict, ast.ListComp, ast.Compare, ast.Call,
    ast.JoinedStr, ast.FormattedValue, ast.Constant, ast.Attribute, ast.Subscript, ast.Name, ast.List, ast.Tuple,
    ast.Slice,
)
FUNCTIONS = set(
    "len range enumerate zip min max sum abs sorted reversed int str bool list tuple dict isinstance ord repr any all"
    " divmod".split()
)
ERRORS = set(
    "Exception ValueError TypeError KeyError IndexError LookupError ZeroDivisionError ArithmeticError OverflowError"
    " RuntimeError NotImplementedError AttributeError StopIteration".split()
)
METHODS = set(
    "append clear copy count endswith extend find get index insert isalnum isalpha isdigit islower isspace isupper"
    " items join keys ljust lower lstrip partition pop remove replace reverse rfind rjust rpartition rsplit rstrip"
    " setdefault split splitlines startswith strip update upper values zfill bit_length".split()
)
SPECIAL = {"__init__", "__eq__", "__repr__", "__str__", "__len__"}
KEYWORDS = {
    "sorted": {"key", "reverse"}, "min": {"key", "default"}, "max": {"key", "default"},
    "sum": {"start"}, "enumerate": {"start"}, "zip": {"strict"},
}
KEYS = {"len", "int", "str", "abs", "sum", "min", "max", "tuple"}
WALKED = {"zip", "enumerate", "reversed", "range"}
WALKED_METHODS = {"items", "keys", "values"}
WALKERS = {"list", "tuple", "dict", "sorted", "sum", "any", "all", "enumerate", "zip", "min", "max"}
UNUSED_NAMES = set(
    "register mro elements open input version_info with_traceback add_note attrgetter breakpoint builtins compile"
    " copyright credits delattr dir eval exec exit gc getattr globals hasattr help id importlib license locals"
    " methodcaller os quit setattr super type vars sys".split()
)
UNUSED_ATTRIBUTES = {
    "register", "mro", "elements", "open", "input", "version_info", "with_traceback", "add_note", "format", "format_map",
}
UNUSED_VALUES = set(
    "items keys values pop update append clear extend insert remove reverse setdefault sort args encode format".split()
)
UNUSED_WORDS = re.compile(
    r"\b(type|typing|typing_extensions|enum|Enum|IntEnum|StrEnum|Flag|IntFlag|Generic|Protocol|ABC|ABCMeta|namedtuple"
    r"|NamedTuple|TypedDict|TYPE_CHECKING|abstractmethod)\b|dataclass|overload|contextmanager"
)
UNUSED_FILES = re.compile(r"test(s|ing|_.*)?|site|conftest|sitecustomize|usercustomize")


def parents_of(tree):
    return {child: node for node in ast.walk(tree) for child in ast.iter_child_nodes(node)}


def source_faults(source):
    """L10, L14, L17, L27: what is seen without reading the code."""
    for number, line in enumerate(source.split("\n"), 1):
        if len(line) > 120:
            yield "L10", number
        if any(not " " <= sign <= "~" for sign in line):
            yield "L14", number
        if UNUSED_WORDS.search(line):
            yield "L17", number
        if re.search(r"\\[^nt\\'\"]", line.replace("\\\\", "")):
            yield "L27", number
    if source.count("\n") > 400:
        yield "L10", 400


def top_faults(tree):
    """L3, L15: the top of a module."""
    bound = []
    for k, node in enumerate(tree.body):
        docstring = k == 0 and isinstance(node, ast.Expr) and isinstance(node.value, ast.Constant)
        if isinstance(node, (ast.FunctionDef, ast.ClassDef)):
            bound.append(node.name)
        elif isinstance(node, ast.ImportFrom):
            bound.extend(alias.name for alias in node.names)
            if any(isinstance(before, (ast.FunctionDef, ast.ClassDef, ast.Assign)) for before in tree.body[:k]):
                yield "L2", node.lineno
        elif isinstance(node, ast.Assign) and isinstance(node.targets[0], ast.Name):
            bound.append(node.targets[0].id)
            yield from value_faults(node.value, 0)
        elif not docstring:
            yield "L3", node.lineno
    if len(bound) != len(set(bound)):
        yield "L15", 1


def value_faults(node, level):
    """L3, L15: a plain value at the top of a module."""
    if isinstance(node, ast.UnaryOp):
        node = node.operand
    if isinstance(node, (ast.List, ast.Dict)) and level:
        yield "L15", node.lineno
    if isinstance(node, (ast.List, ast.Tuple)):
        for part in node.elts:
            yield from value_faults(part, level + 1)
    elif isinstance(node, ast.Dict):
        for part in node.keys + node.values:
            yield from value_faults(part, level + 1)
    elif not isinstance(node, (ast.Constant, ast.Name)):
        yield "L3", node.lineno


def function_faults(node, parents):
    """L4, L10, L12, L15, L21, L28: a function."""
    given = node.args
    if given.vararg or given.kwarg or given.kwonlyargs or given.posonlyargs or node.decorator_list:
        yield "L4", node.lineno
    if any(not isinstance(value, (ast.Constant, ast.UnaryOp)) for value in given.defaults):
        yield "L4", node.lineno
    if node.returns or any(arg.annotation for arg in given.args):
        yield "L21", node.lineno
    if node.end_lineno - node.lineno + 1 > 40:
        yield "L10", node.lineno
    if node.name.startswith("_") and not (node.name in SPECIAL and isinstance(parents[node], ast.ClassDef)):
        yield "L12", node.lineno
    if node.name == "__init__" and any(isinstance(part, ast.Return) and part.value for part in ast.walk(node)):
        yield "L28", node.lineno


def class_faults(node, parents):
    """L5, L15, L18: a class."""
    if len(node.bases) > 1 or node.keywords or node.decorator_list:
        yield "L5", node.lineno
    if not isinstance(parents[node], ast.Module):
        yield "L15", node.lineno
    for part in node.body:
        docstring = isinstance(part, ast.Expr) and isinstance(part.value, ast.Constant)
        if not isinstance(part, (ast.FunctionDef, ast.Pass)) and not docstring:
            yield "L5", part.lineno
    names = [part.name for part in node.body if isinstance(part, ast.FunctionDef)]
    if len(names) != len(set(names)):
        yield "L18", node.lineno


def statement_faults(node, parents):
    """L6, L19: a statement."""
    if not isinstance(node, STATEMENTS):
        yield "L6", node.lineno
    if isinstance(node, ast.Assign) and len(node.targets) > 1:
        yield "L6", node.lineno
    if isinstance(node, (ast.For, ast.While)) and node.orelse:
        yield "L6", node.lineno
    if isinstance(node, ast.Try):
        yield from try_faults(node)
    if isinstance(node, ast.Expr) and not isinstance(node.value, (ast.Call, ast.Constant)):
        yield "L6", node.lineno
    if isinstance(node, ast.Raise) and not isinstance(node.exc, ast.Call):
        yield "L19", node.lineno
    if isinstance(node, ast.FunctionDef):
        yield from function_faults(node, parents)
    if isinstance(node, ast.ClassDef):
        yield from class_faults(node, parents)


def try_faults(node):
    if node.finalbody:
        yield "L6", node.lineno
    for handler in node.handlers:
        if handler.type is None:
            yield "L6", handler.lineno
            continue
        for name in ast.walk(handler.type):
            if not isinstance(name, ast.Name):
                continue
            if name.id in ("Exception", "TypeError"):
                yield "L19", handler.lineno
            if name.id in ("ValueError", "LookupError", "IndexError") and len(node.body) > 1:
                yield "L19", handler.lineno


def expression_faults(node, parents):
    """L7, L13, L20, L27: an expression."""
    if not isinstance(node, EXPRESSIONS):
        yield "L7", node.lineno
    if isinstance(node, ast.Constant):
        yield from constant_faults(node)
    if isinstance(node, ast.ListComp) and (len(node.generators) > 1 or len(node.generators[0].ifs) > 1):
        yield "L7", node.lineno
    if isinstance(node, ast.FormattedValue):
        if not isinstance(node.value, ast.Name) or node.conversion not in (-1, 114) or node.format_spec:
            yield "L7", node.lineno
    if isinstance(node, ast.BinOp) and isinstance(node.op, ast.Pow):
        if not isinstance(node.right, ast.Constant) or not 0 <= node.right.value <= 64:
            yield "L27", node.lineno
    if isinstance(node, ast.Compare) and any(isinstance(sign, (ast.Is, ast.IsNot)) for sign in node.ops):
        beside = [node.left] + node.comparators
        if not any(isinstance(part, ast.Constant) and part.value in (None, True, False) for part in beside):
            yield "L20", node.lineno
    if isinstance(node, ast.Call):
        yield from call_faults(node, parents)


def constant_faults(node):
    if node.value is not None and not isinstance(node.value, (int, str)):
        yield "L7", node.lineno
    if isinstance(node.value, str) and "%" in node.value:
        yield "L27", node.lineno
    if isinstance(node.value, int) and abs(node.value) >= 10**900:
        yield "L27", node.lineno


def call_faults(node, parents):
    """L22, L23: a call of Python's own."""
    name = node.func.id if isinstance(node.func, ast.Name) else ""
    method = node.func.attr if isinstance(node.func, ast.Attribute) else ""
    given = {keyword.arg for keyword in node.keywords}
    if name in FUNCTIONS | ERRORS and not given <= KEYWORDS.get(name, set()):
        yield "L22", node.lineno
    if method in METHODS and given:
        yield "L22", node.lineno
    if (name in WALKED or method in WALKED_METHODS) and not walked_at_once(node, parents[node]):
        yield "L23", node.lineno


def walked_at_once(node, parent):
    if isinstance(parent, (ast.For, ast.comprehension)):
        return parent.iter == node
    if isinstance(parent, ast.Call) and isinstance(parent.func, ast.Name):
        return parent.func.id == "zip" or parent.func.id in WALKERS and parent.args[:1] == [node]
    joins = isinstance(parent, ast.Call) and isinstance(parent.func, ast.Attribute) and parent.func.attr == "join"
    return joins and isinstance(parent.func.value, ast.Constant)


def name_faults(tree, parents):
    """L8, L12, L15, L17, L22: the names of a file."""
    fixed = {node.name for node in tree.body if isinstance(node, ast.ClassDef)}
    for node in tree.body:
        if isinstance(node, ast.ImportFrom):
            fixed.update(alias.name for alias in node.names)
    for node in ast.walk(tree):
        if isinstance(node, ast.arg) or isinstance(node, ast.Name) and isinstance(node.ctx, ast.Store):
            name = node.arg if isinstance(node, ast.arg) else node.id
            if name in dir(builtins) or name in fixed:
                yield "L15", node.lineno
            if name.startswith("_") or not name.isascii():
                yield "L12", node.lineno
            if name in UNUSED_NAMES:
                yield "L17", node.lineno
        elif isinstance(node, ast.Name):
            yield from use_faults(node, parents[node])


def use_faults(node, parent):
    """A name that is read: of Python's own only those of L8, and called where they stand."""
    if node.id in UNUSED_NAMES:
        yield "L17", node.lineno
    elif node.id in dir(builtins) and node.id not in FUNCTIONS | ERRORS:
        yield "L8", node.lineno
    if node.id in FUNCTIONS:
        called = isinstance(parent, ast.Call) and parent.func == node
        key = isinstance(parent, ast.keyword) and parent.arg == "key" and node.id in KEYS
        asked = isinstance(parent, (ast.Call, ast.Tuple)) and node.id in ("int", "str", "bool", "list", "tuple", "dict")
        if not (called or key or asked):
            yield "L22", node.lineno


def attribute_faults(trees):
    """L17, L18, L25, L26: methods and values, in the whole package."""
    methods = {
        part.name
        for tree in trees for node in ast.walk(tree) if isinstance(node, ast.ClassDef)
        for part in node.body if isinstance(part, ast.FunctionDef)
    }
    attributes = [(node, parents) for tree in trees for parents in [parents_of(tree)]
                  for node in ast.walk(tree) if isinstance(node, ast.Attribute)]
    values = {node.attr for node, _ in attributes if isinstance(node.ctx, ast.Store)}
    if methods & values:
        yield "L18", 1
    for node, parents in attributes:
        called = isinstance(parents[node], ast.Call) and parents[node].func == node
        if node.attr in UNUSED_ATTRIBUTES:
            yield "L17", node.lineno
        elif isinstance(node.ctx, ast.Store) and (node.attr in UNUSED_VALUES or node.attr.startswith("_")):
            yield "L26", node.lineno
        elif called and node.attr not in METHODS | methods | SPECIAL:
            yield "L25", node.lineno
        elif not called and node.attr not in values:
            yield "L25", node.lineno


def import_faults(trees):
    """L2, L16: trees by their modules' names."""
    drawn = {module: set() for module in trees}
    for module, tree in trees.items():
        for node in ast.walk(tree):
            if isinstance(node, ast.Import):
                yield "L2", node.lineno
            if not isinstance(node, ast.ImportFrom):
                continue
            if node.level or node.module not in trees or node not in tree.body:
                yield "L2", node.lineno
                continue
            drawn[module].update({node.module, "recordgate"} & set(trees))
            bound = {getattr(part, "name", None) for part in trees[node.module].body}
            bound |= {target.id for part in trees[node.module].body if isinstance(part, ast.Assign)
                      for target in part.targets if isinstance(target, ast.Name)}
            if any(alias.asname or alias.name not in bound for alias in node.names):
                yield "L16", node.lineno
    for module in trees:
        reached, waiting = set(), list(drawn[module])
        while waiting:
            step = waiting.pop()
            if step not in reached:
                reached.add(step)
                waiting.extend(drawn[step])
        if module in reached:
            yield "L16", 1


def file_faults(source):
    """All faults of one file that are seen in it alone."""
    yield from source_faults(source)
    tree = ast.parse(source)
    parents = parents_of(tree)
    yield from top_faults(tree)
    yield from name_faults(tree, parents)
    lambdas = [node.lineno for node in ast.walk(tree) if isinstance(node, ast.Lambda)]
    if len(lambdas) != len(set(lambdas)):
        yield "L13", 1
    for node in ast.walk(tree):
        if isinstance(node, ast.stmt):
            yield from statement_faults(node, parents)
        elif isinstance(node, ast.expr):
            yield from expression_faults(node, parents)
        elif isinstance(node, (ast.Div, ast.MatMult)):
            yield "L7", 1


def package_faults(sources):
    """All faults of a package: its sources by their modules' names."""
    found = [(rule, module, line) for module, source in sources.items() for rule, line in file_faults(source)]
    trees = {module: ast.parse(source) for module, source in sources.items()}
    found += [(rule, "", line) for rule, line in attribute_faults(list(trees.values()))]
    found += [(rule, "", line) for rule, line in import_faults(trees)]
    return found


REFUSED = [
    ("L2", "import os"),
    ("L2", "from os import path"),
    ("L2", "from .errors import GateError"),
    ("L3", "if True:\n    LOW = 1"),
    ("L3", "LOW = len([])"),
    ("L4", "def told(*things):\n    return 1"),
    ("L4", "def told(thing=[]):\n    return 1"),
    ("L5", "class Told:\n    low = 1"),
    ("L6", "def told(one):\n    assert one"),
    ("L6", "def told(one):\n    del one[0]"),
    ("L6", "def told(one):\n    low = high = one\n    return low + high"),
    ("L7", "def told(one):\n    return one / 2"),
    ("L7", "LOW = 1.5"),
    ("L7", "def told(one):\n    return all(part for part in one)"),
    ("L7", "def told(one):\n    return {part for part in one}"),
    ("L7", "def told(one):\n    return [part for row in one for part in row]"),
    ("L8", "def told(one):\n    return filter(one, one)"),
    ("L10", "def told(one):\n" + "    one = 1\n" * 40),
    ("L10", "LOW = \"" + "a" * 120 + "\""),
    ("L12", "def told(_one):\n    return 1"),
    ("L12", "def _told(one):\n    return 1"),
    ("L14", "LOW = \"\u00e9\""),
    ("L15", "LOW = 1\nLOW = 2"),
    ("L15", "LOW = [[1]]"),
    ("L15", "def told(min):\n    return 1"),
    ("L16", "from recordgate.errors import Missing"),
    ("L17", "# the type of it"),
    ("L17", "def told(one):\n    return id(one)"),
    ("L18", "class Told:\n    def low(self):\n        self.low = 1"),
    ("L19", "def told(one):\n    try:\n        one()\n    except Exception:\n        pass"),
    ("L20", "def told(one):\n    return one is one"),
    ("L21", "def told(one: int):\n    return 1"),
    ("L22", "def told(one):\n    return str(object=one)"),
    ("L22", "def told(one):\n    low = len\n    return low(one)"),
    ("L23", "def told(one):\n    low = zip(one, one)\n    return list(low)"),
    ("L23", "def told(one):\n    one.extend(reversed(one))"),
    ("L25", "def told(one):\n    return one.casefold()"),
    ("L25", "def told(one):\n    one.sort()"),
    ("L27", "def told(one):\n    return 2 ** one"),
    ("L27", "LOW = \"5%\""),
    ("L27", "LOW = \"\\x41\""),
    ("L28", "class Told:\n    def __init__(self):\n        return None"),
]


class LanguageTest(unittest.TestCase):
    def test_files(self):
        for path in PACKAGE.rglob("*"):
            if "__pycache__" in path.parts:
                continue
            with self.subTest(path=path):
                self.assertRegex(path.name, r"^[a-z0-9_]+\.py$")
                self.assertEqual(path.parent, PACKAGE)
                self.assertNotIn(path.stem, dir(builtins))
                self.assertIsNone(UNUSED_FILES.fullmatch(path.stem))
        self.assertTrue((PACKAGE / "__init__.py").is_file())

    def test_code(self):
        sources = {}
        for path in sorted(PACKAGE.glob("*.py")):
            module = "recordgate" if path.stem == "__init__" else "recordgate." + path.stem
            sources[module] = path.read_text(encoding="utf-8")
        self.assertIn("recordgate.things", sources)
        self.assertEqual(package_faults(sources), [])

    def test_faults_are_seen(self):
        errors = "class GateError(ValueError):\n    pass\n"
        for rule, source in REFUSED:
            with self.subTest(source=source):
                faults = package_faults({"recordgate.errors": errors, "recordgate.told": source})
                self.assertIn(rule, [fault[0] for fault in faults])

    def test_files_that_draw_from_one_another(self):
        sources = {
            "recordgate.one": "from recordgate.other import told\n\n\ndef low():\n    return told()\n",
            "recordgate.other": "from recordgate.one import low\n\n\ndef told():\n    return low()\n",
        }
        self.assertIn("L16", [fault[0] for fault in package_faults(sources)])

    def test_plain_code_has_no_fault(self):
        source = "LOW = (1, -2)\n\n\ndef told(things):\n    return [k for k, thing in enumerate(things) if thing > LOW[0]]\n"
        self.assertEqual(package_faults({"recordgate.told": source}), [])


if __name__ == "__main__":
    unittest.main()
