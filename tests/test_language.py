"""Holds the package's files to those rules of LANGUAGE.md that are plain to see in a file by itself."""

import ast
import builtins
import re
import unittest
from pathlib import Path

PACKAGE = Path(__file__).resolve().parent.parent / "amongalike"

OWN_NAMES = set(
    "len range enumerate zip min max sum abs sorted reversed int str bool list tuple dict set frozenset "
    "isinstance ord repr any all divmod Exception ValueError TypeError KeyError IndexError LookupError "
    "ZeroDivisionError ArithmeticError OverflowError RuntimeError NotImplementedError AttributeError "
    "StopIteration".split())
METHODS = set(
    "append clear copy count endswith extend find get index insert isalnum isalpha isdigit islower isspace "
    "isupper items join keys ljust lower lstrip partition pop remove replace reverse rfind rjust rpartition "
    "rsplit rstrip setdefault split splitlines startswith strip update upper values zfill bit_length".split())
WORDS = re.compile(
    r"\b(type|typing|typing_extensions|enum|Enum|IntEnum|StrEnum|Flag|IntFlag|Generic|Protocol|ABC|ABCMeta|"
    r"namedtuple|NamedTuple|TypedDict|TYPE_CHECKING|abstractmethod)\b|dataclass|overload|contextmanager")
WALKS = ("zip", "enumerate", "reversed", "range", ".items", ".keys", ".values")
TWO_UNDERSCORES = {"__init__", "__eq__", "__repr__", "__str__", "__len__"}
NODES = set(
    "Module FunctionDef ClassDef Return Assign AugAssign For While If Raise Try ExceptHandler ImportFrom alias Expr "
    "Pass Break Continue BoolOp And Or BinOp Add Sub Mult FloorDiv Mod Pow LShift RShift BitOr BitXor BitAnd "
    "UnaryOp Not USub UAdd Invert Lambda IfExp Dict Set ListComp comprehension Compare Eq NotEq Lt LtE Gt GtE Is "
    "IsNot In NotIn Call JoinedStr FormattedValue Constant Attribute Subscript Name List Tuple Slice Load Store "
    "arguments arg keyword".split())


def bound_names(tree):
    """Each name that a file binds, with its line."""
    for node in ast.walk(tree):
        if isinstance(node, (ast.FunctionDef, ast.ClassDef)):
            yield node.name, node.lineno
        elif isinstance(node, ast.arg):
            yield node.arg, node.lineno
        elif isinstance(node, ast.Name) and isinstance(node.ctx, ast.Store):
            yield node.id, node.lineno
        elif isinstance(node, ast.alias):
            yield node.asname or node.name, node.lineno
        elif isinstance(node, ast.ExceptHandler) and node.name:
            yield node.name, node.lineno


def faults_of_text(text):
    lines = text.split("\n")
    if len(lines) - 1 > 400:
        yield "L10", 400
    for number, line in enumerate(lines, start=1):
        if len(line) > 120:
            yield "L10", number
        if any(not " " <= sign <= "~" for sign in line):
            yield "L14", number
        if WORDS.search(line):
            yield "L17", number


def faults_of_names(tree):
    names = set()
    for name, line in bound_names(tree):
        names.add(name)
        if name in TWO_UNDERSCORES:
            continue
        if not re.fullmatch(r"[A-Za-z][A-Za-z0-9_]*", name):
            yield "L12", line
        if hasattr(builtins, name):
            yield "L15", line
    methods = set(METHODS) | names | TWO_UNDERSCORES
    for node in ast.walk(tree):
        if isinstance(node, ast.Attribute) and isinstance(node.ctx, ast.Store):
            methods.add(node.attr)
    for node in ast.walk(tree):
        if isinstance(node, ast.Name) and node.id not in names | OWN_NAMES:
            yield "L8", node.lineno
        if isinstance(node, ast.Attribute) and node.attr not in methods:
            yield "L25", node.lineno


def is_plain(node):
    """Whether a node is a None, True or False, as `is` asks for."""
    return isinstance(node, ast.Constant) and (node.value is None or isinstance(node.value, bool))


def faults_of_node(node, line):
    if type(node).__name__ not in NODES:
        yield "L6 or L7", line
    if isinstance(node, (ast.FunctionDef, ast.ClassDef)) and node.decorator_list:
        yield "L4 or L5", line
    if isinstance(node, ast.FunctionDef) and node.end_lineno - node.lineno >= 40:
        yield "L10", line
    if isinstance(node, ast.arguments) and (node.vararg or node.kwarg or node.kwonlyargs or node.posonlyargs):
        yield "L4", line
    if isinstance(node, ast.ClassDef) and (len(node.bases) > 1 or node.keywords):
        yield "L5", line
    if isinstance(node, ast.Assign) and len(node.targets) > 1:
        yield "L6", line
    if isinstance(node, (ast.For, ast.While)) and node.orelse or isinstance(node, ast.Try) and node.finalbody:
        yield "L6", line
    if isinstance(node, ast.ListComp) and (len(node.generators) > 1 or len(node.generators[0].ifs) > 1):
        yield "L7", line
    if isinstance(node, ast.Constant) and not (is_plain(node) or isinstance(node.value, (int, str))):
        yield "L7", line
    if isinstance(node, ast.Constant) and isinstance(node.value, str) and "%" in node.value:
        yield "L27", line
    if isinstance(node, ast.Compare) and any(isinstance(sign, (ast.Is, ast.IsNot)) for sign in node.ops):
        if not any(is_plain(side) for side in [node.left] + node.comparators):
            yield "L20", line
    if isinstance(node, ast.ImportFrom):
        if node.level or not node.module.startswith("amongalike.") or node.names[0].name == "*":
            yield "L2", line


def faults_of_statements(tree):
    """A text stands by itself at a file's top alone, and imports stand there."""
    for node in ast.walk(tree):
        for part in ast.iter_child_nodes(node):
            if isinstance(part, ast.Expr) and not isinstance(part.value, ast.Call):
                if node is not tree or part is not tree.body[0]:
                    yield "L6", part.lineno
            if isinstance(part, (ast.ImportFrom, ast.ClassDef)) and node is not tree:
                yield "L2 or L15", part.lineno


def called(node):
    """The name of Python's own that a node calls, or the method, with a dot ahead."""
    if not isinstance(node, ast.Call):
        return None
    if isinstance(node.func, ast.Name):
        return node.func.id
    return "." + node.func.attr if isinstance(node.func, ast.Attribute) else None


def is_walked(node, outer):
    if isinstance(outer, (ast.For, ast.comprehension)):
        return node is outer.iter
    if called(outer) in ("min", "max", ".join"):
        return [node] == outer.args
    takers = ("list", "tuple", "dict", "sorted", "sum", "any", "all", "enumerate", "zip")
    return called(outer) in takers and node is outer.args[0]


def is_set_used(outer):
    if isinstance(outer, (ast.Compare, ast.BinOp)):
        return True
    return called(outer) in ("sorted", "len") and not outer.keywords


def faults_of_uses(tree):
    """Walks and sets are not kept; keywords stand at a few of Python's own names alone."""
    keywords = {"sorted": {"key", "reverse"}, "min": {"key", "default"}, "max": {"key", "default"},
                "sum": {"start"}, "enumerate": {"start"}, "zip": {"strict"}}
    for outer in ast.walk(tree):
        for node in ast.iter_child_nodes(outer):
            if called(node) in WALKS and not is_walked(node, outer):
                yield "L23", node.lineno
            if (called(node) in ("set", "frozenset") or isinstance(node, ast.Set)) and not is_set_used(outer):
                yield "L24", node.lineno
        if called(outer) in OWN_NAMES:
            if not {word.arg for word in outer.keywords} <= keywords.get(called(outer), set()):
                yield "L22", outer.lineno


def faults_of_classes(trees):
    """In all files together no name is a method of one class and a value of another."""
    methods, values = set(), set()
    for tree in trees:
        for node in ast.walk(tree):
            if isinstance(node, ast.ClassDef):
                methods |= {part.name for part in node.body if isinstance(part, ast.FunctionDef)}
            if isinstance(node, ast.Attribute) and isinstance(node.ctx, ast.Store):
                values.add(node.attr)
    return [("L18", name) for name in sorted(methods & values)]


def faults(text):
    """The rules that a file's text breaks, with their lines."""
    tree = ast.parse(text)
    found = list(faults_of_text(text)) + list(faults_of_names(tree)) + list(faults_of_statements(tree))
    found += list(faults_of_uses(tree)) + faults_of_classes([tree])
    for node in ast.walk(tree):
        found += faults_of_node(node, getattr(node, "lineno", 0))
    return found


def top_names(tree):
    """The names that a file defines at its top, those it draws from other files not among them."""
    names = set()
    for node in tree.body:
        if isinstance(node, (ast.FunctionDef, ast.ClassDef)):
            names.add(node.name)
        elif isinstance(node, ast.Assign):
            names |= {target.id for target in node.targets if isinstance(target, ast.Name)}
    return names


def drawn(tree):
    """Each file from which a file draws, with the name drawn and its line."""
    for node in tree.body:
        if isinstance(node, ast.ImportFrom):
            for alias in node.names:
                yield node.module.removeprefix("amongalike."), alias.name, node.lineno


def inner_names(tree):
    """The parameters and locals of a file's functions, with their lines."""
    for function in ast.walk(tree):
        if isinstance(function, ast.FunctionDef):
            for name, line in bound_names(function):
                if name != function.name:
                    yield name, line


def faults_between(texts):
    """The rules that files, told by their names, break by what they draw from one another."""
    trees = {file: ast.parse(text) for file, text in texts.items()}
    sources = {file: {source for source, name, line in drawn(tree)} for file, tree in trees.items()}
    yield from faults_of_classes(trees.values())
    for file, tree in trees.items():
        for source, name, line in drawn(tree):
            if source not in trees or name not in top_names(trees[source]):
                yield "L16", line
        taken = {name for source, name, line in drawn(tree)} | top_names(tree)
        for name, line in inner_names(tree):
            if name in taken:
                yield "L15", line
        reached, growing = set(), list(sources[file])
        while growing:
            source = growing.pop()
            if source not in reached:
                reached.add(source)
                growing += sources.get(source, ())
        if file in reached:
            yield "L16", 0


class Language(unittest.TestCase):
    def test_the_package_holds_plainly_named_files_alone(self):
        names = sorted(path.name for path in PACKAGE.iterdir() if path.name != "__pycache__")
        self.assertIn("__init__.py", names)
        for name in names:
            self.assertRegex(name, r"\A([a-z][a-z0-9_]*|__init__|__main__)\.py\Z")

    def test_each_file_keeps_to_the_rules(self):
        for path in sorted(PACKAGE.glob("*.py")):
            with self.subTest(file=path.name):
                self.assertEqual(faults(path.read_text(encoding="utf-8")), [])

    def test_files_draw_from_one_another_by_the_rules(self):
        texts = {path.stem: path.read_text(encoding="utf-8") for path in PACKAGE.glob("*.py")}
        self.assertIn("least", texts)
        self.assertEqual(list(faults_between(texts)), [])

    def test_breaches_between_files_are_seen(self):
        one = "def f():\n    pass"
        for texts in ({"a": one, "b": "from amongalike.a import f", "c": "from amongalike.b import f"},
                      {"a": "from amongalike.b import f"},
                      {"a": "from amongalike.b import g\n" + one, "b": "from amongalike.a import f\ndef g():\n    f()"},
                      {"a": one, "b": "from amongalike.a import f\ndef g(f):\n    pass"},
                      {"a": one, "b": "from amongalike.a import f\ndef g():\n    f = 1"},
                      {"a": "class A:\n    def size(self):\n        pass",
                       "b": "class B:\n    def __init__(self):\n        self.size = 1"}):
            with self.subTest(texts=texts):
                self.assertNotEqual(list(faults_between(texts)), [])
        self.assertEqual(list(faults_between({"a": one, "b": "from amongalike.a import f\ndef g():\n    f()"})), [])

    def test_breaches_are_seen(self):
        for text in ("half = 1 / 2", "x = 1.5", "x = y = 1", "import os", "from os import path", "x = 'caf\u00e9'",
                     "def f(*a):\n    pass", "def f(x):\n    return x is 1", "def f(x):\n    return hash(x)",
                     "def f(min):\n    return min", "def f(x):\n    return x.title()", "# the type of it",
                     "def f(x):\n    'words'", "x = {1: 2 for y in (1, 2)}", "def f():\n    assert True",
                     "def _f():\n    pass", "x = '100%'", "x = 1" + " " * 120,
                     "def f():\n" + "    pass\n" * 40, "x = [a for a in (1, 2) for b in (1, 2)]",
                     "def f():\n    x = range(3)", "def f(d):\n    return d.values()",
                     "def f(d):\n    return len(set(d.values()))", "def f(x):\n    return set(x)",
                     "def f(x):\n    for y in set(x):\n        pass", "def f(x):\n    return sorted(set(x), key=len)",
                     "def f(x):\n    return list(sequence=x)", "def f(x):\n    x.title = 1\n    return x.swapcase()",
                     "class A:\n    def size(self):\n        self.size = 1"):
            with self.subTest(text=text):
                self.assertNotEqual(faults(text), [])


if __name__ == "__main__":
    unittest.main()
