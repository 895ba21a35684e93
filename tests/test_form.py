"""The form of the package's files: the rules that can be seen row by row in a syntax tree.

They also hold up point 2: nothing can hang on a clock, chance or files where
nothing but the package's own modules is drawn from.
"""

import ast
import builtins
import pathlib
import re
import unittest

PACKAGE = pathlib.Path(__file__).resolve().parent.parent / "roomalgebra"

NODES = """
Module Import ImportFrom alias FunctionDef arguments arg Return ClassDef Assign AugAssign AnnAssign
If While For Break Continue Pass Raise Try ExceptHandler Expr Call keyword Name Attribute Subscript Slice
Constant List Tuple Dict Set ListComp comprehension Lambda IfExp BoolOp And Or BinOp UnaryOp Compare
JoinedStr FormattedValue Load Store Add Sub Mult FloorDiv Mod Pow BitAnd BitOr BitXor LShift RShift Invert
Not USub UAdd Eq NotEq Lt LtE Gt GtE Is IsNot In NotIn
""".split()

BUILT_IN = """
len range enumerate zip min max sum abs sorted reversed int str bool list tuple dict set frozenset isinstance
ord repr any all divmod Exception ValueError TypeError KeyError IndexError LookupError ZeroDivisionError
ArithmeticError OverflowError RuntimeError NotImplementedError AttributeError StopIteration
""".split()

METHODS = """
append clear copy count endswith extend find get index insert isalnum isalpha isdigit islower isspace isupper
items join keys ljust lower lstrip partition pop remove replace reverse rfind rjust rpartition rsplit rstrip
setdefault split splitlines startswith strip update upper values zfill bit_length
""".split()

TWO_UNDERSCORES = ["__init__", "__eq__", "__repr__", "__str__", "__len__"]

WORDS_OUT = re.compile(
    r"\b(type|typing|typing_extensions|enum|Enum|IntEnum|StrEnum|Flag|IntFlag|Generic|Protocol|ABC|ABCMeta"
    r"|namedtuple|NamedTuple|TypedDict|TYPE_CHECKING|abstractmethod)\b|dataclass|overload|contextmanager")


def faults_of_rows(source):
    faults = []
    rows = source.split("\n")
    if len(rows) > 400:
        faults.append("L10 more than 400 rows")
    for number, row in enumerate(rows, start=1):
        if len(row) > 120:
            faults.append(f"L10 row {number} is too long")
        if any(not " " <= sign <= "~" for sign in row):
            faults.append(f"L14 a sign in row {number}")
        if WORDS_OUT.search(row):
            faults.append(f"L17 a word in row {number}")
    return faults


def is_plain_name(name):
    return re.fullmatch(r"[A-Za-z][A-Za-z0-9_]*", name) is not None


def own_names(trees):
    names = set()
    for tree in trees:
        for node in ast.walk(tree):
            if isinstance(node, ast.FunctionDef):
                names.add(node.name)
            if isinstance(node, ast.Attribute) and isinstance(node.ctx, ast.Store):
                names.add(node.attr)
    return names


def faults_of_names(tree, own):
    faults = []
    for node in ast.walk(tree):
        if isinstance(node, ast.Name):
            if hasattr(builtins, node.id) and (node.id not in BUILT_IN or isinstance(node.ctx, ast.Store)):
                faults.append(f"L8 {node.id}")
            if not is_plain_name(node.id):
                faults.append(f"L12 {node.id}")
        if isinstance(node, ast.arg) and (hasattr(builtins, node.arg) or not is_plain_name(node.arg)):
            faults.append(f"L15 {node.arg}")
        if isinstance(node, ast.FunctionDef) and not is_plain_name(node.name) and node.name not in TWO_UNDERSCORES:
            faults.append(f"L12 {node.name}")
        if isinstance(node, ast.Attribute) and node.attr not in METHODS and node.attr not in own:
            if node.attr != "__init__":
                faults.append(f"L25 {node.attr}")
    return faults


def faults_of_nodes(tree):
    faults = []
    for node in ast.walk(tree):
        kind = node.__class__.__name__
        if kind not in NODES:
            faults.append(f"L6 or L7 {kind}")
        if isinstance(node, ast.Constant) and isinstance(node.value, (float, complex, bytes)):
            faults.append("L7 a constant")
        if isinstance(node, ast.Constant) and isinstance(node.value, str) and "%" in node.value:
            faults.append("L27 a sign in a text")
        if isinstance(node, ast.Assign) and len(node.targets) != 1:
            faults.append("L6 several targets")
        if isinstance(node, (ast.For, ast.While)) and node.orelse:
            faults.append("L6 else behind a loop")
        if isinstance(node, ast.Try) and node.finalbody:
            faults.append("L6 finally")
        if isinstance(node, ast.ListComp) and (len(node.generators) > 1 or len(node.generators[0].ifs) > 1):
            faults.append("L7 a comprehension")
        if isinstance(node, ast.Compare):
            sides = [node.left] + node.comparators
            for place, op in enumerate(node.ops):
                pair = sides[place:place + 2]
                plain = [side for side in pair if isinstance(side, ast.Constant) and side.value in (None, True, False)]
                if isinstance(op, (ast.Is, ast.IsNot)) and not plain:
                    faults.append("L20 is")
    return faults


def faults_of_defs(tree):
    faults = []
    for node in ast.walk(tree):
        if isinstance(node, ast.FunctionDef):
            if node.end_lineno - node.lineno + 1 > 40:
                faults.append(f"L10 {node.name} is too long")
            plain = node.args
            if plain.vararg or plain.kwarg or plain.kwonlyargs or plain.posonlyargs or node.decorator_list:
                faults.append(f"L4 {node.name}")
        if isinstance(node, ast.ClassDef):
            body = [part for part in node.body if not isinstance(part, (ast.FunctionDef, ast.Pass))]
            if body or len(node.bases) > 1 or node.keywords or node.decorator_list or node not in tree.body:
                faults.append(f"L5 {node.name}")
    return faults


def defined_names(tree):
    names = [node.name for node in tree.body if isinstance(node, (ast.FunctionDef, ast.ClassDef))]
    for node in tree.body:
        if isinstance(node, ast.Assign):
            names.extend(target.id for target in node.targets)
    return names


def faults_of_top(tree, trees):
    faults = []
    for place, node in enumerate(tree.body):
        if isinstance(node, ast.ImportFrom):
            source = trees.get(node.module)
            for name in node.names:
                if source is None or node.level or name.asname or name.name not in defined_names(source):
                    faults.append(f"L2 {node.module} {name.name}")
        elif isinstance(node, ast.Expr):
            if place != 0 or not isinstance(node.value, ast.Constant):
                faults.append("L3 something is done at the top")
        elif not isinstance(node, (ast.FunctionDef, ast.ClassDef, ast.Assign)):
            faults.append(f"L3 {node.__class__.__name__}")
    names = defined_names(tree)
    if len(names) != len(set(names)):
        faults.append("L15 a name is bound twice")
    return faults


def drawn_from(tree):
    return [node.module for node in tree.body if isinstance(node, ast.ImportFrom)]


def circle_from(name, trees, above):
    if name in above:
        return True
    return any(circle_from(other, trees, above + [name]) for other in drawn_from(trees[name]))


def faults_of_package(sources):
    trees = {name: ast.parse(source) for name, source in sources.items()}
    own = own_names(trees.values())
    faults = []
    for name, source in sources.items():
        tree = trees[name]
        found = faults_of_rows(source) + faults_of_names(tree, own) + faults_of_nodes(tree)
        found = found + faults_of_defs(tree) + faults_of_top(tree, trees)
        faults.extend(f"{name}: {fault}" for fault in found)
    if not faults and any(circle_from(name, trees, []) for name in trees):
        faults.append("L16 files draw from one another")
    return faults


class Form(unittest.TestCase):
    def test_the_package_holds_plain_files_alone(self):
        for path in sorted(PACKAGE.iterdir()):
            if path.name != "__pycache__":
                self.assertTrue(path.is_file(), path.name)
                self.assertRegex(path.name, r"\A(__init__|[a-z][a-z0-9_]*)\.py\Z")

    def test_the_files_keep_to_the_rules(self):
        sources = {f"roomalgebra.{path.stem}": path.read_text("utf-8") for path in sorted(PACKAGE.glob("*.py"))}
        self.assertIn("roomalgebra.__init__", sources)
        self.assertEqual(faults_of_package(sources), [])

    def test_init_draws_from_nothing(self):
        tree = ast.parse((PACKAGE / "__init__.py").read_text("utf-8"))
        self.assertEqual(drawn_from(tree), [])


class TheFormIsSeen(unittest.TestCase):
    def test_faults_are_found(self):
        for source in [
            "import os\n", "from random import choice\n", "from . import words\n", "from time import *\n",
            "x = 1.5\n", "x = 3 / 2\n", "x = b''\n", "x = '\xe9'\n", "x = 'a%'\n", "x = 1  #\t\n",
            "x = 1\nx = 2\n", "print(1)\n", "# a type\n", "x = 1  # " + "x" * 120 + "\n", "x = 1\n" * 401,
            "def f(*xs):\n    return xs\n", "def f(x, *, y):\n    return x\n", "def f(id):\n    return 1\n",
            "def f():\n    assert True\n", "def f():\n    yield 1\n", "def f():\n    a = b = 1\n    return a\n",
            "def f(x):\n    return x.sort()\n", "def f(x):\n    return open(x)\n", "def f(x):\n    return x is 3\n",
            "def f(x):\n    return [a for b in x for a in b]\n", "def f(x):\n    return {a for a in x}\n",
            "def f(x):\n    return sum(a for a in x)\n", "def f(x):\n    return (y := x)\n",
            "def f(x):\n    for a in x:\n        pass\n    else:\n        pass\n",
            "def f(x):\n" + "    x = x + 1\n" * 41, "def hidden_(x):\n    _y = x\n    return _y\n",
            "class C:\n    x = 1\n", "class C(ValueError, KeyError):\n    pass\n",
        ]:
            self.assertNotEqual(faults_of_package({"roomalgebra.sample": source}), [], source)

    def test_circles_are_found(self):
        one = "from roomalgebra.two import g\n\n\ndef f():\n    return g()\n"
        two = "from roomalgebra.one import f\n\n\ndef g():\n    return f()\n"
        self.assertEqual(faults_of_package({"roomalgebra.one": one, "roomalgebra.two": two}),
                         ["L16 files draw from one another"])

    def test_plain_code_is_let_by(self):
        plain = '"""A file."""\n\nMOST = 3\n\n\ndef f(x):\n    return [a + MOST for a in x if a is not None]\n'
        self.assertEqual(faults_of_package({"roomalgebra.sample": plain}), [])


if __name__ == "__main__":
    unittest.main()
