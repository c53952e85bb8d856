"""The package's files against the rules of the language that it keeps to, as far as they can be seen."""

import ast
import builtins
import re
import unittest
from pathlib import Path

ROOT = Path(__file__).resolve().parent.parent
PACKAGE = ROOT / "twinstride"

OWN_NAMES = set(
    "len range enumerate zip min max sum abs sorted reversed int str bool list tuple dict set frozenset isinstance ord "
    "repr any all divmod Exception ValueError TypeError KeyError IndexError LookupError ZeroDivisionError "
    "ArithmeticError OverflowError RuntimeError NotImplementedError AttributeError StopIteration".split()
)
METHODS = set(
    "append clear copy count endswith extend find get index insert isalnum isalpha isdigit islower isspace isupper "
    "items join keys ljust lower lstrip partition pop remove replace reverse rfind rjust rpartition rsplit rstrip "
    "setdefault split splitlines startswith strip update upper values zfill bit_length".split()
)
KIND_METHODS = {name for kind in (str, int, list, dict, set, tuple, bytes) for name in dir(kind)}
STATEMENTS = (
    ast.Assign, ast.AugAssign, ast.If, ast.While, ast.For, ast.Return, ast.Break, ast.Continue, ast.Pass, ast.Raise,
    ast.Try, ast.Expr, ast.FunctionDef, ast.ClassDef, ast.ImportFrom,
)
EXPRESSIONS = (
    ast.Constant, ast.List, ast.Tuple, ast.Dict, ast.BinOp, ast.UnaryOp, ast.Compare, ast.BoolOp, ast.IfExp, ast.Call,
    ast.Attribute, ast.Subscript, ast.Slice, ast.ListComp, ast.JoinedStr, ast.FormattedValue, ast.Name, ast.Lambda,
    ast.Set,
)
TWO_UNDERSCORES = ("__init__", "__eq__", "__repr__", "__str__", "__len__")
UNUSED_WORDS = re.compile(
    r"\b(type|typing|typing_extensions|enum|Enum|IntEnum|StrEnum|Flag|IntFlag|Generic|Protocol|ABC|ABCMeta|namedtuple|"
    r"NamedTuple|TypedDict|TYPE_CHECKING|abstractmethod)\b|dataclass|overload|contextmanager"
)
UNUSED_NAMES = set(
    "register mro elements open input version_info with_traceback add_note format format_map attrgetter methodcaller "
    "importlib os gc sys license credits copyright".split()
)
WALKED = ("zip", "enumerate", "reversed", "range")


def faults(text):
    """The rules that a file's text breaks, each with its line."""
    found = ["L10 file"] * (len(text.splitlines()) > 400)
    for number, line in enumerate(text.split("\n"), start=1):
        if len(line) > 120 or "\t" in line:
            found.append(f"L10 line {number}")
        if not all(" " <= sign <= "~" for sign in line):
            found.append(f"L14 line {number}")
        if UNUSED_WORDS.search(line):
            found.append(f"L17 line {number}")
    tree = ast.parse(text)
    own = {node.name for node in ast.walk(tree) if isinstance(node, (ast.FunctionDef, ast.ClassDef))}
    for rule, node in list(of_the_top(tree)) + [pair for node in ast.walk(tree) for pair in of_a_node(node, own)]:
        found.append(f"{rule} line {getattr(node, 'lineno', 0)}")
    return found


def of_the_top(tree):
    bound = []
    for number, node in enumerate(tree.body):
        if isinstance(node, ast.Assign):
            bound += [target.id for target in node.targets if isinstance(target, ast.Name)]
            if any(isinstance(part, (ast.Call, ast.ListComp, ast.Set)) for part in ast.walk(node.value)):
                yield "L3", node
            parts = list(ast.walk(node.value))[1:] if isinstance(node.value, (ast.List, ast.Dict)) else []
            if any(isinstance(part, (ast.List, ast.Dict)) for part in parts):
                yield "L15", node
        elif isinstance(node, (ast.FunctionDef, ast.ClassDef)):
            bound.append(node.name)
        elif isinstance(node, ast.ImportFrom):
            bound += [alias.asname or alias.name for alias in node.names]
        elif not (number == 0 and isinstance(node, ast.Expr) and isinstance(node.value, ast.Constant)):
            yield "L3", node
    if len(set(bound)) != len(bound):
        yield "L15", tree
    imported = {alias.asname or alias.name for node in tree.body if isinstance(node, ast.ImportFrom) for alias in node.names}
    classes = {node.name for node in tree.body if isinstance(node, ast.ClassDef)}
    for node in ast.walk(tree):
        local = node.arg if isinstance(node, ast.arg) else node.id if is_stored(node) else None
        if local in imported | classes or local in dir(builtins):
            yield "L15", node
        if isinstance(node, ast.ClassDef) and node not in tree.body:
            yield "L15", node


def is_stored(node):
    return isinstance(node, ast.Name) and isinstance(node.ctx, ast.Store)


def of_a_node(node, own):
    for rules in (of_statements, of_expressions, of_names):
        for rule in rules(node, own):
            yield rule, node


def of_statements(node, own):
    if isinstance(node, ast.stmt) and not isinstance(node, STATEMENTS):
        yield "L6"
    if isinstance(node, ast.Assign) and len(node.targets) != 1:
        yield "L6"
    if isinstance(node, (ast.For, ast.While)) and node.orelse or isinstance(node, ast.Try) and node.finalbody:
        yield "L6"
    if isinstance(node, ast.Expr) and not isinstance(node.value, (ast.Call, ast.Constant)):
        yield "L6"
    if isinstance(node, ast.Import):
        yield "L2"
    if isinstance(node, ast.ImportFrom):
        module = node.module or ""
        if node.level or not (module.startswith("twinstride.") or module == "__future__"):
            yield "L2"
        if any(alias.name == "*" for alias in node.names):
            yield "L2"
    if isinstance(node, ast.FunctionDef):
        arguments = node.args
        if arguments.vararg or arguments.kwarg or arguments.kwonlyargs or arguments.posonlyargs or node.decorator_list:
            yield "L4"
        if node.end_lineno - node.lineno >= 40:
            yield "L10"
        if node.returns or any(argument.annotation for argument in arguments.args):
            yield "L21"
    if isinstance(node, ast.ClassDef):
        parts = [part for part in node.body if not isinstance(part, (ast.FunctionDef, ast.Pass))]
        if len(node.bases) > 1 or node.keywords or node.decorator_list:
            yield "L5"
        if any(not isinstance(part, ast.Expr) or not isinstance(part.value, ast.Constant) for part in parts):
            yield "L5"
    if isinstance(node, ast.ExceptHandler):
        caught = node.type.elts if isinstance(node.type, ast.Tuple) else [node.type]
        if any(not isinstance(one, ast.Name) or one.id in ("Exception", "TypeError") for one in caught):
            yield "L19"
    if isinstance(node, ast.Raise) and not isinstance(node.exc, ast.Call):
        yield "L19"


def of_expressions(node, own):
    if isinstance(node, ast.expr) and not isinstance(node, EXPRESSIONS):
        yield "L7"
    if isinstance(node, ast.BinOp) and isinstance(node.op, (ast.Div, ast.MatMult)):
        yield "L7"
    if isinstance(node, ast.BinOp) and isinstance(node.op, ast.Pow) and not isinstance(node.right, ast.Constant):
        yield "L27"
    if isinstance(node, ast.Constant):
        if isinstance(node.value, (float, bytes, complex)):
            yield "L7"
        if isinstance(node.value, str) and "%" in node.value:
            yield "L27"
    if isinstance(node, ast.ListComp) and (len(node.generators) > 1 or len(node.generators[0].ifs) > 1):
        yield "L7"
    if isinstance(node, ast.Set) and len(node.elts) > 2:
        yield "L13"
    if isinstance(node, ast.Compare) and any(isinstance(sign, (ast.Is, ast.IsNot)) for sign in node.ops):
        sides = [node.left] + node.comparators
        if not any(isinstance(side, ast.Constant) and side.value in (None, True, False) for side in sides):
            yield "L20"
    kept = node.value if isinstance(node, (ast.Assign, ast.Return)) else None
    if isinstance(kept, ast.Call) and isinstance(kept.func, ast.Name) and kept.func.id in WALKED:
        yield "L23"
    if isinstance(kept, ast.Call) and isinstance(kept.func, ast.Name) and kept.func.id in ("set", "frozenset"):
        yield "L24"


def of_names(node, own):
    if isinstance(node, ast.Name) and node.id in dir(builtins) and node.id not in OWN_NAMES:
        yield "L8"
    names = [getattr(node, field, None) for field in ("id", "arg", "attr", "name")]
    for name in [name for name in names if isinstance(name, str)]:
        if name in UNUSED_NAMES:
            yield "L17"
        if name.startswith("_") and name not in TWO_UNDERSCORES or not name.isascii():
            yield "L12"
    if isinstance(node, ast.Call) and isinstance(node.func, ast.Attribute):
        called = node.func.attr
        if called in KIND_METHODS and called not in METHODS and called not in TWO_UNDERSCORES and called not in own:
            yield "L25"


def names_of(tree):
    """The names that a file defines itself."""
    for part in tree.body:
        if isinstance(part, (ast.FunctionDef, ast.ClassDef)):
            yield part.name
        elif isinstance(part, ast.Assign):
            yield from [target.id for target in part.targets]


def of_the_whole(texts):
    """The rules that files break together: texts by their names, without the ending."""
    trees = {name: ast.parse(text) for name, text in texts.items()}
    drawn = {name: {} for name in trees}
    methods, values = set(), set()
    for name, tree in trees.items():
        for node in ast.walk(tree):
            if isinstance(node, ast.ImportFrom) and (node.module or "").startswith("twinstride."):
                drawn[name].setdefault(node.module.split(".", 1)[1], []).extend(alias.name for alias in node.names)
            if isinstance(node, ast.ClassDef):
                here = [part.name for part in node.body if isinstance(part, ast.FunctionDef)]
                methods.update(here)
                if len(set(here)) != len(here):
                    yield "L18"
            if isinstance(node, ast.Attribute) and isinstance(node.ctx, ast.Store):
                values.add(node.attr)
    if methods & values:
        yield "L18"
    if values & KIND_METHODS - {"count", "index", "title", "find", "get", "join", "lower", "upper", "split", "strip", "copy", "add"}:
        yield "L26"
    for name in drawn:
        reached = set(drawn[name])
        while any(set(drawn.get(other, ())) - reached for other in reached):
            reached = reached.union(*(drawn.get(other, ()) for other in reached))
        if name in reached:
            yield "L16"
        for other, wanted in drawn[name].items():
            defined = set(names_of(trees[other])) if other in trees else set()
            if set(wanted) - defined:
                yield "L16"


BROKEN_TOGETHER = {
    "L16": [
        {"a": "from twinstride.b import f\n\n\ndef g():\n    f()", "b": "from twinstride.a import g\n\n\ndef f():\n    g()"},
        {"a": "from twinstride.b import g", "b": "from twinstride.c import g", "c": "def g():\n    pass"},
    ],
    "L18": [
        {"a": "class A:\n    def f(self):\n        self.g = 1\n\n    def g(self):\n        pass"},
        {"a": "class A:\n    def f(self):\n        pass\n\n    def f(self):\n        pass"},
    ],
    "L26": [{"a": "class A:\n    def f(self):\n        self.items = 1"}],
}

BROKEN = {
    "L2": ["import sys", "from os import path", "from . import plans", "from twinstride.plans import *"],
    "L3": ["print(1)", "x = len([])", "if 1:\n    x = 1"],
    "L4": ["def f(*a):\n    pass", "def f(**a):\n    pass", "@g\ndef f():\n    pass"],
    "L5": ["class A(B, C):\n    pass", "class A:\n    x = 1"],
    "L6": ["def f(a):\n    with a:\n        pass", "def f():\n    x = y = 1", "def f(a):\n    assert a"],
    "L7": ["x = 1.5", "def f(a):\n    return a / 2", "def f(a):\n    return {b: 1 for b in a}", "def f(a):\n    g(*a)"],
    "L8": ["def f(a):\n    return map(g, a)", "def f(a):\n    return chr(a)"],
    "L10": ["x = '" + "a" * 120 + "'", "def f():\n" + "    g()\n" * 41],
    "L12": ["x_ = 1\n_x = 2", "def f(_):\n    pass"],
    "L13": ["def f(a):\n    return {1, 2, 3}"],
    "L14": ["x = '\u00e9'"],
    "L15": ["x = 1\nx = 2", "x = [[1]]", "def f(len):\n    pass", "class A:\n    pass\n\n\ndef f(A):\n    pass"],
    "L17": ["# a type\nx = 1", "def f(a):\n    a.register()"],
    "L19": ["def f():\n    try:\n        g()\n    except:\n        pass", "def f(e):\n    raise e"],
    "L20": ["def f(a, b):\n    return a is b"],
    "L21": ["def f(a: int):\n    pass"],
    "L23": ["def f(a):\n    b = zip(a, a)\n    return b"],
    "L24": ["def f(a):\n    b = set(a)\n    return b"],
    "L25": ["def f(a):\n    a.sort()"],
    "L27": ["def f(n):\n    return 2 ** n", "x = '%'"],
}


class LanguageTest(unittest.TestCase):
    def test_each_file_keeps_to_the_rules(self):
        for path in sorted(PACKAGE.glob("*.py")):
            with self.subTest(path.name):
                self.assertEqual(faults(path.read_text(encoding="utf-8")), [])

    def test_the_files_keep_to_the_rules_together(self):
        texts = {path.stem: path.read_text(encoding="utf-8") for path in PACKAGE.glob("*.py")}
        self.assertEqual(list(of_the_whole(texts)), [])

    def test_rules_broken_together_are_seen(self):
        for rule, wholes in BROKEN_TOGETHER.items():
            for texts in wholes:
                with self.subTest(rule=rule, texts=texts):
                    self.assertIn(rule, list(of_the_whole(texts)))

    def test_nothing_else_lies_in_the_package(self):
        for path in PACKAGE.iterdir():
            if path.name != "__pycache__":
                self.assertRegex(path.name, r"\A(__init__|[a-z][a-z0-9_]*)\.py\Z")

    def test_broken_rules_are_seen(self):
        for rule, texts in BROKEN.items():
            for text in texts:
                with self.subTest(rule=rule, text=text):
                    self.assertIn(rule, [fault.split()[0] for fault in faults(text)])


if __name__ == "__main__":
    unittest.main()
