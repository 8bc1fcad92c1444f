"""The package's files against those rules of ../shared/LANGUAGE.md that can be read off a file.

What a rule asks of the meaning of a program (such as L11 and L15 in part) is not looked at here.
"""

import ast
import builtins
import pathlib
import re
import unittest

PACKAGE = pathlib.Path(__file__).resolve().parent.parent / "annals"

NODES = """
    Module Import ImportFrom alias FunctionDef ClassDef Lambda arguments arg Return Assign AugAssign
    For While If Raise Try ExceptHandler Expr Pass Break Continue BoolOp And Or BinOp Add Sub Mult FloorDiv Mod
    Pow BitAnd BitOr BitXor LShift RShift UnaryOp Not USub UAdd Invert IfExp Dict Set List Tuple ListComp
    comprehension Compare Eq NotEq Lt LtE Gt GtE Is IsNot In NotIn Call keyword JoinedStr FormattedValue Constant
    Attribute Subscript Slice Name Load Store
""".split()

OWN_NAMES = """
    len range enumerate zip min max sum abs sorted reversed int str bool list tuple dict set frozenset isinstance
    ord repr any all divmod Exception ValueError TypeError KeyError IndexError LookupError ZeroDivisionError
    ArithmeticError OverflowError RuntimeError NotImplementedError AttributeError StopIteration
""".split()

OWN_METHODS = """
    append clear copy count endswith extend find get index insert isalnum isalpha isdigit islower isspace isupper
    items join keys ljust lower lstrip partition pop remove replace reverse rfind rjust rpartition rsplit rstrip
    setdefault split splitlines startswith strip update upper values zfill bit_length add discard title
""".split()

TWO_UNDERSCORES = "__init__ __eq__ __repr__ __str__ __len__ __all__ __version__ __name__".split()

FORBIDDEN_NAMES = """
    register mro elements open input version_info with_traceback add_note format format_map attrgetter breakpoint
    builtins compile copyright credits delattr dir eval exec exit gc getattr globals hasattr help id importlib
    license locals methodcaller os quit setattr super vars
""".split()

WALKERS = "zip enumerate reversed range".split()
WALKED_METHODS = "items keys values".split()
WALKING = "list tuple dict sorted sum any all enumerate zip".split()
CHANGES = "append clear extend insert pop remove reverse setdefault update add discard".split()

NO_VALUES = """
    items keys values pop update append clear extend insert remove reverse setdefault sort args encode format
""".split()

FORBIDDEN_WORDS = re.compile(
    r"\b(type|typing|typing_extensions|enum|Enum|IntEnum|StrEnum|Flag|IntFlag|Generic|Protocol|ABC|ABCMeta"
    r"|namedtuple|NamedTuple|TypedDict|TYPE_CHECKING|abstractmethod)\b|dataclass|overload|contextmanager")


def python_methods():
    found = set()
    for value in ("", 0, [], (), {}, set(), b""):
        found.update(name for name in dir(value) if not name.startswith("_"))
    return found


PYTHON_METHODS = python_methods()


def names_of(node):
    """The names that a node itself uses or binds."""
    if isinstance(node, ast.Name):
        return [node.id]
    if isinstance(node, ast.Attribute):
        return [node.attr]
    if isinstance(node, (ast.FunctionDef, ast.ClassDef)):
        return [node.name]
    if isinstance(node, ast.arg):
        return [node.arg]
    if isinstance(node, ast.alias):
        return [node.name if node.asname is None else node.asname]
    return []


def faults_of_text(text):
    lines = text.split("\n")
    if len(lines) > 401:
        yield "L10: more than 400 lines"
    for number, line in enumerate(lines, start=1):
        if len(line) > 120:
            yield f"L10: line {number} is too long"
        if re.search("[^ -~]", line):
            yield f"L14: line {number} has a sign that is none from the blank to the tilde"
        if FORBIDDEN_WORDS.search(line):
            yield f"L17: line {number} has a word that stands nowhere"


def faults_of_names(node, main):
    for name in names_of(node):
        if name.startswith("_") and name not in TWO_UNDERSCORES:
            yield f"L12: {name}"
        if name in FORBIDDEN_NAMES:
            yield f"L17: {name}"
    if isinstance(node, ast.Name) and hasattr(builtins, node.id) and node.id not in OWN_NAMES:
        if not main or node.id not in ("print", "__name__"):
            yield f"L8: {node.id}"
    if isinstance(node, (ast.arg, ast.Name)) and not isinstance(getattr(node, "ctx", None), ast.Load):
        if hasattr(builtins, names_of(node)[0]):
            yield f"L15: {names_of(node)[0]} is a name of Python's own"
    if isinstance(node, ast.Attribute) and node.attr in PYTHON_METHODS and node.attr not in OWN_METHODS:
        yield f"L25: {node.attr}"


def faults_of_imports(node, main):
    if isinstance(node, ast.Import) and not (main and [alias.name for alias in node.names] == ["sys"]):
        yield "L16: import"
    if isinstance(node, ast.ImportFrom):
        if node.level or not (node.module == "__future__" or node.module.startswith("annals.")):
            yield "L2: from"
        if any(alias.name == "*" for alias in node.names):
            yield "L2: star"


def faults_of_defs(node):
    if isinstance(node, ast.FunctionDef):
        if node.end_lineno - node.lineno >= 40:
            yield f"L10: {node.name} is too long"
        if node.args.vararg or node.args.kwarg or node.args.kwonlyargs or node.args.posonlyargs:
            yield f"L4: {node.name} has no plain parameters"
    if isinstance(node, (ast.FunctionDef, ast.ClassDef)) and node.decorator_list:
        yield f"L4: {node.name} has a decorator"
    if isinstance(node, ast.ClassDef):
        if len(node.bases) > 1 or node.keywords:
            yield f"L5: {node.name} has more than a base"
        if not all(isinstance(part, (ast.FunctionDef, ast.Pass)) for part in node.body):
            yield f"L5: {node.name} has something else than methods"


def faults_of_forms(node):
    if node.__class__.__name__ not in NODES:
        yield f"L6, L7: {node.__class__.__name__}"
    if isinstance(node, (ast.For, ast.While)) and node.orelse:
        yield "L6: else behind a loop"
    if isinstance(node, ast.Try) and node.finalbody:
        yield "L6: finally"
    if isinstance(node, ast.Assign) and (len(node.targets) > 1 or isinstance(node.targets[0], (ast.Tuple, ast.List))):
        yield "L6: several targets"
    if isinstance(node, ast.Attribute) and isinstance(node.ctx, ast.Store) and node.attr in NO_VALUES:
        yield f"L26: a value is called {node.attr}"
    if isinstance(node, ast.ListComp) and (len(node.generators) > 1 or len(node.generators[0].ifs) > 1):
        yield "L7: a comprehension with more than a for and an if"
    if isinstance(node, ast.Constant) and isinstance(node.value, (float, complex, bytes)):
        yield "L7: a value of another kind"
    if isinstance(node, ast.Constant) and isinstance(node.value, str) and "%" in node.value:
        yield "L27: a percent sign"
    if isinstance(node, ast.FormattedValue):
        if not isinstance(node.value, ast.Name) or node.format_spec is not None or node.conversion not in (-1, 114):
            yield "L7: an f-string that isn't plain"
    if isinstance(node, ast.Compare) and any(isinstance(op, (ast.Is, ast.IsNot)) for op in node.ops):
        if not (isinstance(node.comparators[-1], ast.Constant) and node.comparators[-1].value in (None, True, False)):
            yield "L20: is"


def is_walker(node):
    if not isinstance(node, ast.Call):
        return False
    if isinstance(node.func, ast.Name):
        return node.func.id in WALKERS
    return isinstance(node.func, ast.Attribute) and node.func.attr in WALKED_METHODS


def walked_by(node):
    """What a node walks on the spot, by L23."""
    if isinstance(node, (ast.For, ast.comprehension)):
        return [node.iter]
    if isinstance(node, ast.Call) and isinstance(node.func, ast.Name):
        if node.func.id in WALKING or (node.func.id in ("min", "max") and len(node.args) == 1):
            return node.args if node.func.id == "zip" else node.args[:1]
    if isinstance(node, ast.Call) and isinstance(node.func, ast.Attribute) and node.func.attr == "join":
        return node.args if isinstance(node.func.value, ast.Constant) else []
    return []


def faults_of_walks(tree):
    walked = [part for node in ast.walk(tree) for part in walked_by(node)]
    for node in ast.walk(tree):
        if is_walker(node) and node not in walked:
            yield f"line {node.lineno}: L23: not walked on the spot"


def set_calls(node):
    """The calls of set at a node, also with `-`, `&`, `|` or `^` between."""
    if isinstance(node, ast.BinOp) and isinstance(node.op, (ast.Sub, ast.BitAnd, ast.BitOr, ast.BitXor)):
        return set_calls(node.left) + set_calls(node.right)
    return [node] if isinstance(node, ast.Call) and isinstance(node.func, ast.Name) and node.func.id == "set" else []


def faults_of_sets(tree):
    placed = []
    for node in ast.walk(tree):
        if isinstance(node, ast.Compare) and isinstance(node.ops[0], (ast.In, ast.NotIn, ast.Eq, ast.NotEq)):
            placed.extend(call for side in [node.left] + node.comparators for call in set_calls(side))
        if isinstance(node, ast.Call) and isinstance(node.func, ast.Name) and node.func.id in ("sorted", "len"):
            if not node.keywords:
                placed.extend(call for part in node.args for call in set_calls(part))
    for node in ast.walk(tree):
        if isinstance(node, ast.Call) and set_calls(node) and node not in placed:
            yield f"line {node.lineno}: L24: a set that is kept or walked"


def walked_names(node):
    """The names of what a loop walks, itself or through a call such as enumerate or items."""
    if isinstance(node, ast.Call):
        inner = [node.func.value] if isinstance(node.func, ast.Attribute) else node.args
        return [name for part in inner for name in walked_names(part)] if is_walker(node) else []
    return [ast.unparse(node)] if isinstance(node, (ast.Name, ast.Attribute)) else []


def changed_name(node):
    """The name of what a node changes in its place, if it does."""
    if isinstance(node, ast.Subscript) and isinstance(node.ctx, ast.Store):
        return ast.unparse(node.value)
    if isinstance(node, ast.Call) and isinstance(node.func, ast.Attribute) and node.func.attr in CHANGES:
        return ast.unparse(node.func.value)
    return None


def faults_of_loops(tree):
    for loop in ast.walk(tree):
        if isinstance(loop, ast.For):
            walked = walked_names(loop.iter)
            for node in [inner for part in loop.body for inner in ast.walk(part)]:
                if changed_name(node) in walked:
                    yield f"line {node.lineno}: L23: what is walked is changed"


def faults_of_locals(tree):
    taken = {alias.name for node in tree.body if isinstance(node, ast.ImportFrom) for alias in node.names}
    taken.update(node.name for node in tree.body if isinstance(node, (ast.FunctionDef, ast.ClassDef)))
    for node in ast.walk(tree):
        bound = isinstance(node, ast.arg) or (isinstance(node, ast.Name) and isinstance(node.ctx, ast.Store))
        if bound and names_of(node)[0] in taken:
            yield f"line {node.lineno}: L15: {names_of(node)[0]} is an import, a class or a function of its file"


def imports_of(text):
    """The modules that a file draws from, each with the names that it draws."""
    return {node.module: [alias.name for alias in node.names]
            for node in ast.parse(text).body if isinstance(node, ast.ImportFrom)}


def bound_at_top(text):
    found = []
    for node in ast.parse(text).body:
        if isinstance(node, (ast.FunctionDef, ast.ClassDef)):
            found.append(node.name)
        if isinstance(node, ast.Assign):
            found.extend(names_of(node.targets[0]))
    return found


def faults_of_drawing(texts):
    """The package's imports together: from the file that defines the name, and never in a round."""
    drawn = {module: imports_of(text) for module, text in texts.items()}
    left = dict(drawn)
    while left:
        free = [module for module in left if not any(other in left for other in left[module])]
        if not free:
            yield f"L16: {sorted(left)} draw from one another"
            return
        left = {module: left[module] for module in left if module not in free}
    for module, rows in drawn.items():
        for other, names in rows.items():
            for name in names:
                if other != "__future__" and name not in bound_at_top(texts[other]):
                    yield f"L16: {module} draws {name}, which {other} does not define"


def faults_of_classes(texts):
    """The package's classes together: no name is a method in one and a value in another."""
    nodes = [node for text in texts.values() for node in ast.walk(ast.parse(text))]
    methods = {part.name for node in nodes if isinstance(node, ast.ClassDef)
               for part in node.body if isinstance(part, ast.FunctionDef)}
    values = {node.attr for node in nodes if isinstance(node, ast.Attribute) and isinstance(node.ctx, ast.Store)}
    for name in sorted(methods & values):
        yield f"L18: {name} is a method and a value"


def faults_of(text, main):
    yield from faults_of_text(text)
    tree = ast.parse(text)
    yield from faults_of_walks(tree)
    yield from faults_of_sets(tree)
    yield from faults_of_loops(tree)
    yield from faults_of_locals(tree)
    for name in sorted({name for name in bound_at_top(text) if bound_at_top(text).count(name) > 1}):
        yield f"L15: {name} is bound more than once"
    for node in ast.walk(tree):
        place = f"line {getattr(node, 'lineno', '?')}: "
        for fault in faults_of_names(node, main):
            yield place + fault
        for fault in faults_of_imports(node, main):
            yield place + fault
        for fault in faults_of_defs(node):
            yield place + fault
        for fault in faults_of_forms(node):
            yield place + fault


class Language(unittest.TestCase):

    def test_the_package_holds_plain_files_alone(self):
        names = sorted(path.name for path in PACKAGE.iterdir() if path.name != "__pycache__")
        self.assertIn("__init__.py", names)
        for name in names:
            with self.subTest(name):
                self.assertRegex(name, r"^(__init__|__main__|[a-z][a-z0-9_]*)\.py$")
                self.assertNotRegex(name, r"^(test|tests|testing|test_.*|site|conftest)\.py$")

    def test_each_file_keeps_to_the_rules(self):
        for path in sorted(PACKAGE.glob("*.py")):
            with self.subTest(path.name):
                text = path.read_bytes().decode("utf-8")
                self.assertEqual(list(faults_of(text, path.name == "__main__.py")), [])

    def test_the_files_draw_from_one_another_by_the_rules(self):
        texts = {"annals." + path.stem: path.read_text(encoding="utf-8") for path in PACKAGE.glob("*.py")}
        self.assertEqual(list(faults_of_drawing(texts)), [])
        self.assertEqual(list(faults_of_classes(texts)), [])

    def test_faults_of_classes_are_found(self):
        method = "class A:\n    def name(self):\n        return 1\n"
        value = "class B:\n    def __init__(self):\n        self.name = 1\n"
        self.assertEqual(len(list(faults_of_classes({"annals.a": method, "annals.b": value}))), 1)
        self.assertEqual(list(faults_of_classes({"annals.a": method, "annals.b": method})), [])

    def test_faults_of_drawing_are_found(self):
        for texts in ({"annals.a": "from annals.b import f\n", "annals.b": "from annals.a import f\n"},
                      {"annals.a": "from annals.b import f\n", "annals.b": "from annals.c import f\n",
                       "annals.c": "def f():\n    return 1\n"}):
            with self.subTest(texts):
                self.assertNotEqual(list(faults_of_drawing(texts)), [])

    def test_faults_are_found(self):
        for text in ("x = 1.5\n", "x = y = 1\n", "x, y = z\n", "import os\n", "from .a import b\n", "x = f'{1 + 1}'\n",
                     "def f(*a):\n    return 1\n", "def f(list):\n    return 1\n", "x = a is b\n", "x = '5%'\n",
                     "x = 'a'.encode()\n", "x = hash(1)\n", "x = {1: 2 for a in b}\n", "def _f():\n    return 1\n",
                     "# a type\n", "x = '\u00e9'\n", "x = [a for b in c for a in b]\n", "class A:\n    x = 1\n",
                     "x = " + "1" * 120 + "\n", "def f():\n" + "    x = 1\n" * 40, "x = chr(1)\n",
                     "def f(n):\n    return reversed(range(n))\n", "def f(d):\n    x = d.items()\n    return x\n",
                     "def f(n):\n    for x in reversed(range(n)):\n        return x\n",
                     "from annals.a import b\ndef f(b):\n    return b\n", "def f():\n    f = 1\n    return f\n",
                     "def f(a):\n    a.items = 1\n", "x = 1\nx = 2\n", "def f(a):\n    b = set(a)\n    return b\n",
                     "def f(a):\n    for b in set(a) | set(a):\n        return b\n",
                     "def f(a):\n    return sorted(set(a), key=len)\n",
                     "def f(a):\n    for b in a:\n        a.append(b)\n",
                     "def f(a):\n    for b, c in a.items():\n        a[b] = c\n",
                     "def f(a):\n    for b, c in enumerate(a):\n        a[b] = c\n"):
            with self.subTest(text):
                self.assertNotEqual(list(faults_of(text, False)), [])


if __name__ == "__main__":
    unittest.main()
