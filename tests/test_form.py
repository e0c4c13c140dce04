"""The form of the package's files: those rules of LANGUAGE.md that a walk can see."""

import ast
import builtins
import os
import re
import unittest

ROOT = os.path.dirname(os.path.dirname(os.path.abspath(__file__)))
PACKAGE = os.path.join(ROOT, "drawback")

OWN_NAMES = """
    len range enumerate zip min max sum abs sorted reversed int str bool bytes list tuple
    dict set frozenset isinstance ord repr any all divmod Exception ValueError TypeError
    KeyError IndexError LookupError ZeroDivisionError ArithmeticError OverflowError
    RuntimeError NotImplementedError AttributeError StopIteration
""".split()
METHODS = """
    append clear copy count endswith extend find get index insert isalnum isalpha isdigit
    islower isspace isupper items join keys ljust lower lstrip partition pop remove replace
    reverse rfind rjust rpartition rsplit rstrip setdefault split splitlines startswith strip
    update upper values zfill bit_length add discard sort __init__
""".split()
NODES = """
    Module Expr Constant ImportFrom alias FunctionDef arguments arg ClassDef Return Assign
    AugAssign If While For Break Continue Pass Raise Try ExceptHandler Delete Assert Lambda
    Name Load Store Del Attribute Subscript Slice Call keyword List Tuple Dict Set ListComp
    DictComp SetComp comprehension Starred BinOp UnaryOp BoolOp Compare IfExp JoinedStr
    FormattedValue Add Sub Mult FloorDiv Mod Pow LShift RShift BitAnd BitOr BitXor USub Not
    Invert And Or Eq NotEq Lt LtE Gt GtE Is IsNot In NotIn
""".split()
TOP_NODES = (ast.Expr, ast.ImportFrom, ast.FunctionDef, ast.ClassDef, ast.Assign)
NO_NAMES = """
    register mro elements open input version_info with_traceback add_note format format_map
    attrgetter breakpoint builtins compile copyright credits delattr dir eval exec exit gc
    getattr globals hasattr help id importlib license locals methodcaller os quit setattr
    super type vars sys chr print
""".split()
NO_WORDS = re.compile(
    r"\b(type|typing|typing_extensions|enum|Enum|IntEnum|StrEnum|Flag|IntFlag|Generic|Protocol"
    r"|ABC|ABCMeta|namedtuple|NamedTuple|TypedDict|TYPE_CHECKING|abstractmethod)\b"
    r"|dataclass|overload|contextmanager"
)


def bound_names(tree):
    """Every name that a file writes: of defs, parameters, locals, values and keywords."""
    for node in ast.walk(tree):
        if isinstance(node, (ast.FunctionDef, ast.ClassDef)):
            yield node.name
        elif isinstance(node, ast.Name):
            yield node.id
        elif isinstance(node, ast.Attribute):
            yield node.attr
        elif isinstance(node, (ast.arg, ast.keyword)):
            yield node.arg


def faults_of_text(text):
    rows = text.split("\n")
    if len(rows) > 401:
        yield "L10 a long file"
    for row in rows:
        if len(row) > 120:
            yield "L10 a long line"
        if not all(" " <= sign <= "~" for sign in row):
            yield "L14 a sign"
        if NO_WORDS.search(row):
            yield "L17 a word"


def faults_of_names(tree):
    for name in bound_names(tree):
        if name in NO_NAMES:
            yield f"L17 {name}"
        if name.startswith("_") and name != "__init__":
            yield f"L12 {name}"
    for node in ast.walk(tree):
        if not isinstance(node, ast.Name) or not hasattr(builtins, node.id):
            continue
        if node.id not in OWN_NAMES or not isinstance(node.ctx, ast.Load):
            yield f"L8 {node.id}"


def faults_of_node(node):
    kind = node.__class__.__name__
    if kind not in NODES:
        yield f"L6, L7 {kind}"
    if isinstance(node, ast.Constant) and isinstance(node.value, (float, complex)):
        yield "L7 a float"
    if isinstance(node, ast.Constant) and isinstance(node.value, str) and "%" in node.value:
        yield "L27 a sign in a text"
    if isinstance(node, ast.FunctionDef):
        if node.end_lineno - node.lineno >= 40:
            yield "L10 a long def"
        if node.args.vararg or node.args.kwarg or node.args.posonlyargs:
            yield "L4 parameters"
    if isinstance(node, (ast.FunctionDef, ast.ClassDef)) and node.decorator_list:
        yield "L4, L5 a decorator"
    if isinstance(node, (ast.For, ast.While)) and node.orelse:
        yield "L6 an else behind a loop"
    if isinstance(node, ast.ExceptHandler) and node.type is None:
        yield "L6 a bare except"
    if isinstance(node, ast.Compare):
        for sign, right in zip(node.ops, node.comparators):
            if isinstance(sign, (ast.Is, ast.IsNot)):
                if not isinstance(right, ast.Constant) or right.value not in (None, True, False):
                    yield "L20 is"


def faults_of_top(tree):
    bound = []
    for node in tree.body:
        if not isinstance(node, TOP_NODES):
            yield "L3 a row of the top"
        if isinstance(node, ast.Expr) and not isinstance(node.value, ast.Constant):
            yield "L3 a row of the top"
        if isinstance(node, ast.ImportFrom):
            if node.level or not (node.module + ".").startswith("drawback."):
                yield "L2 an import"
            bound += [name.asname or name.name for name in node.names]
        elif isinstance(node, (ast.FunctionDef, ast.ClassDef)):
            bound.append(node.name)
        elif isinstance(node, ast.Assign):
            bound += [target.id for target in node.targets]
    if len(set(bound)) != len(bound):
        yield "L15 a name bound twice"
    deep = [node for row in tree.body for node in ast.walk(row) if node is not row]
    if any(isinstance(node, (ast.ImportFrom, ast.ClassDef)) for node in deep):
        yield "L2, L15 not at the top"


def drawn_or_class(node):
    """The names that a row of a file's top draws in, or the name of its class."""
    if isinstance(node, ast.ImportFrom):
        return [name.asname or name.name for name in node.names]
    return [node.name] if isinstance(node, ast.ClassDef) else []


def faults_of_locals(tree):
    taken = [name for node in tree.body for name in drawn_or_class(node)]
    for top in tree.body:
        for node in ast.walk(top):
            if isinstance(node, ast.arg):
                if node.arg in taken or hasattr(builtins, node.arg):
                    yield f"L15 {node.arg}"
            elif isinstance(node, ast.Name) and isinstance(node.ctx, ast.Store):
                if node.id in taken:
                    yield f"L15 {node.id}"


def faults(text):
    tree = ast.parse(text)
    found = list(faults_of_text(text)) + list(faults_of_names(tree)) + list(faults_of_top(tree))
    found += list(faults_of_locals(tree))
    for node in ast.walk(tree):
        found += faults_of_node(node)
    return found


def method_calls(tree):
    for node in ast.walk(tree):
        if isinstance(node, ast.Call) and isinstance(node.func, ast.Attribute):
            yield node.func.attr


def own_methods(trees):
    for tree in trees:
        for top in tree.body:
            if isinstance(top, ast.ClassDef):
                for node in top.body:
                    if isinstance(node, ast.FunctionDef):
                        yield node.name


def own_values(trees):
    """The values of objects that some class, or a method, gives."""
    for tree in trees:
        for node in ast.walk(tree):
            if isinstance(node, ast.Attribute) and isinstance(node.ctx, ast.Store):
                yield node.attr


def asked_values(trees):
    """What is asked of a thing and not called."""
    for tree in trees:
        nodes = list(ast.walk(tree))
        called = {id(node.func) for node in nodes if isinstance(node, ast.Call)}
        for node in nodes:
            if isinstance(node, ast.Attribute) and isinstance(node.ctx, ast.Load) and id(node) not in called:
                yield node.attr


def python_methods():
    """The names that Python's own values have."""
    return {name for value in ("", 0, [], (), {}, set(), b"") for name in dir(value)}


def package_texts():
    texts = {}
    for name in sorted(os.listdir(PACKAGE)):
        if name.endswith(".py"):
            with open(os.path.join(PACKAGE, name), encoding="ascii") as source:
                texts[name] = source.read()
    return texts


class Form(unittest.TestCase):
    def test_only_plain_files_lie_in_the_package(self):
        names = [name for name in os.listdir(PACKAGE) if name != "__pycache__"]
        self.assertIn("__init__.py", names)
        for name in names:
            self.assertRegex(name, r"^([a-z][a-z0-9_]*|__init__|__main__)\.py$")

    def test_each_file_keeps_to_the_rules(self):
        for name, text in package_texts().items():
            with self.subTest(name=name):
                self.assertEqual(faults(text), [])

    def test_methods_are_listed_or_own(self):
        trees = [ast.parse(text) for text in package_texts().values()]
        free = METHODS + list(own_methods(trees))
        for tree in trees:
            for name in method_calls(tree):
                self.assertIn(name, free)

    def test_methods_and_values_bear_free_names(self):
        trees = [ast.parse(text) for text in package_texts().values()]
        methods, values = set(own_methods(trees)), set(own_values(trees))
        self.assertEqual(methods & values, set())
        self.assertEqual(set(asked_values(trees)) - values, set())
        self.assertEqual((methods & python_methods()) - set(METHODS), set())
        self.assertEqual(values & python_methods(), set())

    def test_no_two_files_draw_from_one_another(self):
        draws = {}
        for name, text in package_texts().items():
            rows = [row for row in ast.parse(text).body if isinstance(row, ast.ImportFrom)]
            draws[name] = {row.module.split(".")[-1] + ".py" for row in rows}
        settled = set()
        while len(settled) < len(draws):
            ready = {name for name in draws if draws[name] <= settled} - settled
            self.assertTrue(ready, "files that draw from one another")
            settled |= ready

    def test_faults_are_seen(self):
        for text in [
            "import os\n", "from random import choice\n", "x = 1\nx = 2\n", "x = 1.5\n",
            "def f(*xs):\n    return xs\n", "def f(x):\n    return x / 2\n",
            "def f(x):\n    return eval(x)\n", "def f(x):\n    return [k for k in hash(x)]\n",
            "def f():\n    yield 1\n", "# a type\n", "x = 'a%b'\n", "x = 1 # \u00e9\n",
            "def f(x, y):\n    return x is y\n", "def _f():\n    return 1\n", "print(1)\n",
            "def f(min):\n    return 1\n" + "\n" * 400, "x = '" + "a" * 120 + "'\n",
            "def f():\n" + "    pass\n" * 40, "def f():\n    from drawback.days import reach\n",
            "def f(len):\n    return 1\n", "from drawback.room import room\n\n\ndef f():\n    room = 1\n",
            "class A:\n    pass\n\n\ndef f(A):\n    return 1\n",
        ]:
            self.assertNotEqual(faults(text), [], text)


if __name__ == "__main__":
    unittest.main()
