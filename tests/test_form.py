"""The form of the package's files: the rules that can be seen row by row in a syntax tree.

They also hold up point 2: nothing can hang on a clock, chance or files where
nothing but the package's own modules is drawn from.
"""

import ast
import builtins
import pathlib
import re
import unittest

PACKAGE = pathlib.Path(__file__).resolve().parent.parent / "roomalgebra"

NODES = """
Module Import ImportFrom alias FunctionDef arguments arg Return ClassDef Assign AugAssign AnnAssign
If While For Break Continue Pass Raise Try ExceptHandler Expr Call keyword Name Attribute Subscript Slice
Constant List Tuple Dict Set ListComp comprehension Lambda IfExp BoolOp And Or BinOp UnaryOp Compare
JoinedStr FormattedValue Load Store Add Sub Mult FloorDiv Mod Pow BitAnd BitOr BitXor LShift RShift Invert
Not USub UAdd Eq NotEq Lt LtE Gt GtE Is IsNot In NotIn
""".split()

BUILT_IN = """
len range enumerate zip min max sum abs sorted reversed int str bool list tuple dict set frozenset isinstance
ord repr any all divmod Exception ValueError TypeError KeyError IndexError LookupError ZeroDivisionError
ArithmeticError OverflowError RuntimeError NotImplementedError AttributeError StopIteration
""".split()

METHODS = """
append clear copy count endswith extend find get index insert isalnum isalpha isdigit islower isspace isupper
items join keys ljust lower lstrip partition pop remove replace reverse rfind rjust rpartition rsplit rstrip
setdefault split splitlines startswith strip update upper values zfill bit_length
""".split()

NOT_AS_VALUES = """
items keys values pop update append clear extend insert remove reverse setdefault sort args encode format
""".split()

KEYWORDS = {
    "sorted": ["key", "reverse"], "min": ["key", "default"], "max": ["key", "default"], "sum": ["start"],
    "enumerate": ["start"], "zip": ["strict"],
}

WALKED = ["zip", "enumerate", "reversed", "range"]
WALKED_METHODS = ["items", "keys", "values"]
WALKERS = ["list", "tuple", "dict", "sorted", "sum", "any", "all", "enumerate", "zip", "min", "max"]

TWO_UNDERSCORES = ["__init__", "__eq__", "__repr__", "__str__", "__len__"]

WORDS_OUT = re.compile(
    r"\b(type|typing|typing_extensions|enum|Enum|IntEnum|StrEnum|Flag|IntFlag|Generic|Protocol|ABC|ABCMeta"
    r"|namedtuple|NamedTuple|TypedDict|TYPE_CHECKING|abstractmethod)\b|dataclass|overload|contextmanager")


def faults_of_rows(source):
    faults = []
    rows = source.split("\n")
    if len(rows) > 400:
        faults.append("L10 more than 400 rows")
    for number, row in enumerate(rows, start=1):
        if len(row) > 120:
            faults.append(f"L10 row {number} is too long")
        if any(not " " <= sign <= "~" for sign in row):
            faults.append(f"L14 a sign in row {number}")
        if WORDS_OUT.search(row):
            faults.append(f"L17 a word in row {number}")
    return faults


def is_plain_name(name):
    return re.fullmatch(r"[A-Za-z][A-Za-z0-9_]*", name) is not None


def own_names(trees):
    names = set()
    for tree in trees:
        for node in ast.walk(tree):
            if isinstance(node, ast.FunctionDef):
                names.add(node.name)
            if isinstance(node, ast.Attribute) and isinstance(node.ctx, ast.Store):
                names.add(node.attr)
    return names


def faults_of_names(tree, own):
    faults = []
    for node in ast.walk(tree):
        if isinstance(node, ast.Name):
            if hasattr(builtins, node.id) and (node.id not in BUILT_IN or isinstance(node.ctx, ast.Store)):
                faults.append(f"L8 {node.id}")
            if not is_plain_name(node.id):
                faults.append(f"L12 {node.id}")
        if isinstance(node, ast.arg) and (hasattr(builtins, node.arg) or not is_plain_name(node.arg)):
            faults.append(f"L15 {node.arg}")
        if isinstance(node, ast.FunctionDef) and not is_plain_name(node.name) and node.name not in TWO_UNDERSCORES:
            faults.append(f"L12 {node.name}")
        if isinstance(node, ast.Attribute) and node.attr not in METHODS and node.attr not in own:
            if node.attr != "__init__":
                faults.append(f"L25 {node.attr}")
    return faults


def faults_of_nodes(tree):
    faults = []
    for node in ast.walk(tree):
        kind = node.__class__.__name__
        if kind not in NODES:
            faults.append(f"L6 or L7 {kind}")
        if isinstance(node, ast.Constant) and isinstance(node.value, (float, complex, bytes)):
            faults.append("L7 a constant")
        if isinstance(node, ast.Constant) and isinstance(node.value, str) and "%" in node.value:
            faults.append("L27 a sign in a text")
        if isinstance(node, ast.Assign) and len(node.targets) != 1:
            faults.append("L6 several targets")
        if isinstance(node, (ast.For, ast.While)) and node.orelse:
            faults.append("L6 else behind a loop")
        if isinstance(node, ast.Try) and node.finalbody:
            faults.append("L6 finally")
        if isinstance(node, ast.ListComp) and (len(node.generators) > 1 or len(node.generators[0].ifs) > 1):
            faults.append("L7 a comprehension")
        if isinstance(node, ast.Compare):
            sides = [node.left] + node.comparators
            for place, op in enumerate(node.ops):
                pair = sides[place:place + 2]
                plain = [side for side in pair if isinstance(side, ast.Constant) and side.value in (None, True, False)]
                if isinstance(op, (ast.Is, ast.IsNot)) and not plain:
                    faults.append("L20 is")
    return faults


def faults_of_defs(tree):
    faults = []
    for node in ast.walk(tree):
        if isinstance(node, ast.FunctionDef):
            if node.end_lineno - node.lineno + 1 > 40:
                faults.append(f"L10 {node.name} is too long")
            plain = node.args
            if plain.vararg or plain.kwarg or plain.kwonlyargs or plain.posonlyargs or node.decorator_list:
                faults.append(f"L4 {node.name}")
        if isinstance(node, ast.ClassDef):
            body = [part for part in node.body if not isinstance(part, (ast.FunctionDef, ast.Pass))]
            if body or len(node.bases) > 1 or node.keywords or node.decorator_list or node not in tree.body:
                faults.append(f"L5 {node.name}")
    return faults


def parents_of(tree):
    return {child: node for node in ast.walk(tree) for child in ast.iter_child_nodes(node)}


def called_name(node):
    """The name that a call calls, of a function or of a method; None for everything else."""
    if not isinstance(node, ast.Call):
        return None
    if isinstance(node.func, ast.Name):
        return node.func.id
    return node.func.attr if isinstance(node.func, ast.Attribute) else None


def is_walked_at_once(node, parent):
    if isinstance(parent, (ast.For, ast.comprehension)):
        return parent.iter is node
    if called_name(parent) == "join":
        return isinstance(parent.func.value, ast.Constant)
    return called_name(parent) in WALKERS and isinstance(parent.func, ast.Name) and node in parent.args


def is_set_used_at_once(node, parent):
    if isinstance(parent, ast.Compare):
        return True
    return called_name(parent) in ("sorted", "len") and not parent.keywords


def faults_of_calls(tree):
    faults = []
    parents = parents_of(tree)
    for node in ast.walk(tree):
        parent = parents.get(node)
        name = called_name(node)
        if isinstance(node, ast.Call) and isinstance(node.func, ast.Name) and name in BUILT_IN:
            if any(keyword.arg not in KEYWORDS.get(name, []) for keyword in node.keywords):
                faults.append(f"L22 a keyword at {name}")
            if name in WALKED and not is_walked_at_once(node, parent):
                faults.append(f"L23 {name} is kept")
            if name in ("set", "frozenset") and not is_set_used_at_once(node, parent):
                faults.append("L24 a set is kept")
        if isinstance(node, ast.Call) and isinstance(node.func, ast.Attribute):
            if name in WALKED_METHODS and not is_walked_at_once(node, parent):
                faults.append(f"L23 {name} is kept")
        if isinstance(node, ast.Name) and node.id in WALKED + ["len", "sorted"]:
            is_key = isinstance(parent, ast.keyword) and parent.arg == "key" and node.id == "len"
            if not is_key and not (isinstance(parent, ast.Call) and parent.func is node):
                faults.append(f"L22 {node.id} is kept as a value")
    return faults


def faults_of_texts(tree):
    faults = []
    for node in ast.walk(tree):
        if isinstance(node, ast.FormattedValue):
            if not isinstance(node.value, ast.Name) or node.format_spec or node.conversion not in (-1, ord("r")):
                faults.append("L7 an f-string")
        if isinstance(node, ast.BinOp) and isinstance(node.op, ast.Pow):
            if not isinstance(node.right, ast.Constant) or not 0 <= node.right.value <= 64:
                faults.append("L27 an exponent")
        if isinstance(node, ast.AnnAssign) or getattr(node, "annotation", None) or getattr(node, "returns", None):
            faults.append("L21 an annotation")
    return faults


def faults_of_lambdas(tree):
    places = [(node.lineno, [arg.arg for arg in node.args.args]) for node in ast.walk(tree)
              if isinstance(node, ast.Lambda)]
    return ["L13 lambdas alike on one row" for place in places if places.count(place) > 1]


def faults_of_errors(tree):
    faults = []
    for node in ast.walk(tree):
        if isinstance(node, ast.Raise) and not isinstance(node.exc, ast.Call):
            faults.append("L19 a raise that does not make its error")
        if isinstance(node, ast.ExceptHandler):
            named = [name.id for name in ast.walk(node.type or ast.Tuple([])) if isinstance(name, ast.Name)]
            if not named or any(name in ("Exception", "TypeError", "ValueError", "LookupError") for name in named):
                faults.append("L19 an except")
    return faults


def bound_in(node):
    """The parameters and locals of a def."""
    names = [inner.arg for inner in ast.walk(node) if isinstance(inner, ast.arg)]
    for inner in ast.walk(node):
        if isinstance(inner, ast.Name) and isinstance(inner.ctx, ast.Store):
            names.append(inner.id)
        if isinstance(inner, ast.ExceptHandler) and inner.name:
            names.append(inner.name)
    return names


def faults_of_locals(tree):
    taken = [name.name for node in tree.body if isinstance(node, ast.ImportFrom) for name in node.names]
    taken.extend(node.name for node in tree.body if isinstance(node, ast.ClassDef))
    faults = []
    for node in ast.walk(tree):
        if isinstance(node, ast.FunctionDef):
            both = [name for name in bound_in(node) if name in taken or hasattr(builtins, name)]
            faults.extend(f"L15 {name} in {node.name}" for name in both)
    return faults


def faults_of_classes(trees):
    methods = {}
    values = set()
    faults = []
    for tree in trees:
        for node in ast.walk(tree):
            if isinstance(node, ast.ClassDef):
                own = [part.name for part in node.body if isinstance(part, ast.FunctionDef)]
                methods.update((name, node.name) for name in own)
                if len(own) != len(set(own)):
                    faults.append(f"L18 a method of {node.name} stands twice")
            if isinstance(node, ast.Attribute) and isinstance(node.ctx, ast.Store):
                values.add(node.attr)
    faults.extend(f"L18 {name} is a method and a value" for name in sorted(values) if name in methods)
    faults.extend(f"L26 {name} is a value" for name in sorted(values) if name in NOT_AS_VALUES)
    return faults


def defined_names(tree):
    names = [node.name for node in tree.body if isinstance(node, (ast.FunctionDef, ast.ClassDef))]
    for node in tree.body:
        if isinstance(node, ast.Assign):
            names.extend(target.id for target in node.targets)
    return names


def faults_of_top(tree, trees):
    faults = []
    for place, node in enumerate(tree.body):
        if isinstance(node, ast.ImportFrom):
            source = trees.get(node.module)
            for name in node.names:
                if source is None or node.level or name.asname or name.name not in defined_names(source):
                    faults.append(f"L2 {node.module} {name.name}")
        elif isinstance(node, ast.Expr):
            if place != 0 or not isinstance(node.value, ast.Constant):
                faults.append("L3 something is done at the top")
        elif not isinstance(node, (ast.FunctionDef, ast.ClassDef, ast.Assign)):
            faults.append(f"L3 {node.__class__.__name__}")
    names = defined_names(tree)
    if len(names) != len(set(names)):
        faults.append("L15 a name is bound twice")
    return faults


def drawn_from(tree):
    return [node.module for node in tree.body if isinstance(node, ast.ImportFrom)]


def circle_from(name, trees, above):
    if name in above:
        return True
    return any(circle_from(other, trees, above + [name]) for other in drawn_from(trees[name]))


def faults_of_package(sources):
    trees = {name: ast.parse(source) for name, source in sources.items()}
    own = own_names(trees.values())
    faults = []
    for name, source in sources.items():
        tree = trees[name]
        found = faults_of_rows(source) + faults_of_names(tree, own) + faults_of_nodes(tree)
        found = found + faults_of_defs(tree) + faults_of_top(tree, trees) + faults_of_calls(tree)
        found = found + faults_of_texts(tree) + faults_of_errors(tree) + faults_of_locals(tree)
        found = found + faults_of_lambdas(tree)
        faults.extend(f"{name}: {fault}" for fault in found)
    faults.extend(faults_of_classes(trees.values()))
    if not faults and any(circle_from(name, trees, []) for name in trees):
        faults.append("L16 files draw from one another")
    return faults


class Form(unittest.TestCase):
    def test_the_package_holds_plain_files_alone(self):
        for path in sorted(PACKAGE.iterdir()):
            if path.name != "__pycache__":
                self.assertTrue(path.is_file(), path.name)
                self.assertRegex(path.name, r"\A(__init__|[a-z][a-z0-9_]*)\.py\Z")

    def test_the_files_keep_to_the_rules(self):
        sources = {f"roomalgebra.{path.stem}": path.read_text("utf-8") for path in sorted(PACKAGE.glob("*.py"))}
        self.assertIn("roomalgebra.__init__", sources)
        self.assertEqual(faults_of_package(sources), [])

    def test_init_draws_from_nothing(self):
        tree = ast.parse((PACKAGE / "__init__.py").read_text("utf-8"))
        self.assertEqual(drawn_from(tree), [])


class TheFormIsSeen(unittest.TestCase):
    def test_faults_are_found(self):
        for source in [
            "import os\n", "from random import choice\n", "from . import words\n", "from time import *\n",
            "x = 1.5\n", "x = 3 / 2\n", "x = b''\n", "x = '\xe9'\n", "x = 'a%'\n", "x = 1  #\t\n",
            "x = 1\nx = 2\n", "print(1)\n", "# a type\n", "x = 1  # " + "x" * 120 + "\n", "x = 1\n" * 401,
            "def f(*xs):\n    return xs\n", "def f(x, *, y):\n    return x\n", "def f(id):\n    return 1\n",
            "def f():\n    assert True\n", "def f():\n    yield 1\n", "def f():\n    a = b = 1\n    return a\n",
            "def f(x):\n    return x.sort()\n", "def f(x):\n    return open(x)\n", "def f(x):\n    return x is 3\n",
            "def f(x):\n    return [a for b in x for a in b]\n", "def f(x):\n    return {a for a in x}\n",
            "def f(x):\n    return sum(a for a in x)\n", "def f(x):\n    return (y := x)\n",
            "def f(x):\n    for a in x:\n        pass\n    else:\n        pass\n",
            "def f(x):\n" + "    x = x + 1\n" * 41, "def hidden_(x):\n    _y = x\n    return _y\n",
            "class C:\n    x = 1\n", "class C(ValueError, KeyError):\n    pass\n",
            "def f(x):\n    return sorted(x, default=1)\n", "def f(x):\n    return max(len(x), key=len, start=1)\n",
            "def f(x):\n    y = zip(x, x)\n    return list(y)\n", "def f(x):\n    return x.keys()\n",
            "def f(x):\n    y = set(x)\n    return 1 in y\n", "def f(x):\n    for y in set(x):\n        return y\n",
            "def f(x):\n    return tuple(set(x))\n", "def f(x):\n    y = sorted\n    return y(x)\n",
            "def f(x):\n    return f'{x.y}'\n", "def f(x):\n    return f'{x:3}'\n", "def f(x):\n    return 2 ** x\n",
            "def f(x: int):\n    return x\n", "def f(x) -> int:\n    return x\n", "def f(x):\n    raise x\n",
            "def f(x):\n    try:\n        x()\n    except Exception:\n        pass\n",
            "def f(x):\n    try:\n        x()\n    except (KeyError, ValueError):\n        pass\n",
            "def f(x):\n    try:\n        x()\n    except:\n        pass\n",
            "class C:\n    pass\n\n\ndef f(x):\n    C = x\n    return C\n",
            "def f(x):\n    hash = x\n    return hash\n", "def f(x):\n    return [min for min in x]\n",
            "class C:\n    def f(self):\n        self.g = 1\n\n    def g(self):\n        return 1\n",
            "class C:\n    def f(self):\n        return 1\n\n    def f(self):\n        return 2\n",
            "class C:\n    def f(self, x):\n        self.items = x\n",
            "def f(x):\n    return x(lambda y: y, lambda y: 1)\n",
        ]:
            self.assertNotEqual(faults_of_package({"roomalgebra.sample": source}), [], source)

    def test_circles_are_found(self):
        one = "from roomalgebra.two import g\n\n\ndef f():\n    return g()\n"
        two = "from roomalgebra.one import f\n\n\ndef g():\n    return f()\n"
        self.assertEqual(faults_of_package({"roomalgebra.one": one, "roomalgebra.two": two}),
                         ["L16 files draw from one another"])

    def test_plain_code_is_let_by(self):
        for plain in [
            '"""A file."""\n\nMOST = 3\n\n\ndef f(x):\n    return [a + MOST for a in x if a is not None]\n',
            "def f(x):\n    return sorted(set(x))\n", "def f(x):\n    return 1 in set(x) or set(x) == set([])\n",
            "def f(x):\n    return list(zip(x, x)) + [a for a in range(3)] + sorted(x, key=len, reverse=True)\n",
            "def f(x):\n    return ''.join(reversed(x)) + f'{x!r}{x}' + str(3 ** 4)\n",
            "class C(ValueError):\n    pass\n\n\ndef f(x):\n    try:\n        x()\n    except C as e:\n"
            "        raise C(e.sign) from None\n\n\ndef sign():\n    return max([1])\n",
        ]:
            self.assertEqual(faults_of_package({"roomalgebra.sample": plain}), [], plain)


if __name__ == "__main__":
    unittest.main()
