"""The package's files keep to the small part of Python that the program is written in.

Looked at are, in whole or in part, L1 to L8, L10, L12, L14 to L17, L19, L20, L25 and L27; the other rules are kept by
reading the code.
"""

import ast
import builtins
import pathlib
import re
import unittest

PACKAGE = pathlib.Path(__file__).resolve().parent.parent / "leanestate"

OWN_NAMES = set(
    "len range enumerate zip min max sum abs sorted reversed int str bool list tuple dict set frozenset isinstance "
    "ord repr any all divmod Exception ValueError TypeError KeyError IndexError LookupError ZeroDivisionError "
    "ArithmeticError OverflowError RuntimeError NotImplementedError StopIteration".split()
)
METHODS = set(
    "append clear copy count endswith extend find get index insert isalnum isalpha isdigit islower isspace isupper "
    "items join keys ljust lower lstrip partition pop remove replace reverse rfind rjust rpartition rsplit rstrip "
    "setdefault split splitlines startswith strip update upper values zfill bit_length".split()
)
UNUSED = set(
    "register mro elements open input version_info with_traceback add_note attrgetter breakpoint builtins compile "
    "copyright credits delattr dir eval exec exit gc getattr globals hasattr help id importlib license locals "
    "methodcaller os quit setattr super vars sys format format_map".split()
)
UNUSED_WORDS = set(
    "type typing typing_extensions enum Enum IntEnum StrEnum Flag IntFlag Generic Protocol ABC ABCMeta namedtuple "
    "NamedTuple TypedDict TYPE_CHECKING abstractmethod".split()
)
NODES = (
    ast.Module, ast.ImportFrom, ast.alias, ast.FunctionDef, ast.arguments, ast.arg, ast.ClassDef, ast.Lambda,
    ast.Assign, ast.AugAssign, ast.If, ast.While, ast.For, ast.Return, ast.Break, ast.Continue, ast.Pass, ast.Raise,
    ast.Try, ast.ExceptHandler, ast.Expr, ast.Constant, ast.List, ast.Tuple, ast.Dict, ast.Set, ast.BinOp, ast.Add,
    ast.Sub, ast.Mult, ast.FloorDiv, ast.Mod, ast.Pow, ast.BitAnd, ast.BitOr, ast.BitXor, ast.LShift, ast.RShift,
    ast.UnaryOp, ast.USub, ast.Not, ast.Invert, ast.BoolOp, ast.And, ast.Or, ast.Compare, ast.cmpop, ast.IfExp,
    ast.Call, ast.keyword, ast.Attribute, ast.Subscript, ast.Slice, ast.Name, ast.expr_context, ast.ListComp,
    ast.comprehension, ast.JoinedStr, ast.FormattedValue,
)
TOP_NODES = (ast.ImportFrom, ast.FunctionDef, ast.ClassDef, ast.Assign)


def text_faults(text):
    faults = []
    rows = text.split("\n")
    if len(rows) > 401:
        faults.append("L10 a long file")
    if any(len(row) > 120 for row in rows):
        faults.append("L10 a long row")
    if any(sign != "\n" and not " " <= sign <= "~" for sign in text):
        faults.append("L14 a sign")
    words = set(re.findall("[A-Za-z0-9_]+", text))
    if words & UNUSED_WORDS or re.search("dataclass|overload|contextmanager", text):
        faults.append("L17 a word")
    return faults


def top_faults(tree):
    body = tree.body
    if body and isinstance(body[0], ast.Expr) and isinstance(body[0].value, ast.Constant):
        body = body[1:]
    faults = ["L3 at the top" for node in body if not isinstance(node, TOP_NODES)]
    names = []
    for node in body:
        if isinstance(node, ast.ImportFrom):
            names.extend(alias.asname or alias.name for alias in node.names)
        elif isinstance(node, (ast.FunctionDef, ast.ClassDef)):
            names.append(node.name)
        elif isinstance(node, ast.Assign):
            names.extend(target.id for target in node.targets if isinstance(target, ast.Name))
    if len(names) != len(set(names)):
        faults.append("L15 a name bound twice")
    inside = [node for place in body for node in ast.walk(place) if node is not place]
    if any(isinstance(node, (ast.ImportFrom, ast.ClassDef)) for node in inside):
        faults.append("L2 or L15 within a def")
    return faults


def function_faults(node):
    faults = []
    given = node.args
    if given.vararg or given.kwarg or given.kwonlyargs or given.posonlyargs:
        faults.append("L4 parameters")
    if isinstance(node, ast.FunctionDef):
        if node.decorator_list:
            faults.append("L4 a decorator")
        if node.end_lineno - node.lineno >= 40:
            faults.append("L10 a long function")
    return faults


def class_faults(node):
    faults = []
    if len(node.bases) > 1 or node.keywords or node.decorator_list:
        faults.append("L5 a class")
    if any(not isinstance(part, (ast.FunctionDef, ast.Pass)) for part in node.body):
        faults.append("L5 a class body")
    return faults


def name_faults(name):
    faults = []
    if name.startswith("_") and name not in ("__init__", "__eq__", "__repr__", "__str__", "__len__"):
        faults.append("L12 a name " + name)
    if name in UNUSED:
        faults.append("L17 a name " + name)
    return faults


def constant_faults(node):
    if not (node.value is None or isinstance(node.value, (bool, int, str))):
        return ["L7 a value"]
    if isinstance(node.value, str) and "%" in node.value:
        return ["L27 a sign in a text"]
    return []


def plain(node):
    return isinstance(node, ast.Constant) and (node.value is None or isinstance(node.value, bool))


def operator_faults(node):
    faults = []
    if isinstance(node, ast.BinOp) and isinstance(node.op, ast.Pow):
        power = node.right
        if not (isinstance(power, ast.Constant) and 0 <= power.value <= 64):
            faults.append("L27 an exponent")
    if isinstance(node, ast.Compare) and any(isinstance(op, (ast.Is, ast.IsNot)) for op in node.ops):
        if not any(plain(side) for side in [node.left] + node.comparators):
            faults.append("L20 is")
    if isinstance(node, ast.ListComp):
        if len(node.generators) > 1 or len(node.generators[0].ifs) > 1:
            faults.append("L7 a comprehension")
    return faults


def statement_faults(node):
    faults = []
    if isinstance(node, ast.Assign) and len(node.targets) > 1:
        faults.append("L6 two targets")
    if isinstance(node, (ast.For, ast.While)) and node.orelse:
        faults.append("L6 else behind a loop")
    if isinstance(node, ast.Try) and node.finalbody:
        faults.append("L6 finally")
    if isinstance(node, ast.ExceptHandler) and (
        node.type is None or {part.id for part in ast.walk(node.type) if isinstance(part, ast.Name)}
        & {"Exception", "TypeError"}
    ):
        faults.append("L19 except")
    return faults


def node_faults(node):
    if not isinstance(node, NODES):
        return ["L6 or L7 " + node.__class__.__name__]
    if isinstance(node, (ast.FunctionDef, ast.Lambda)):
        return function_faults(node) + name_faults(getattr(node, "name", "plain"))
    if isinstance(node, ast.ClassDef):
        return class_faults(node) + name_faults(node.name)
    if isinstance(node, ast.Constant):
        return constant_faults(node)
    if isinstance(node, ast.Name):
        return name_faults(node.id)
    if isinstance(node, ast.arg):
        return name_faults(node.arg)
    if isinstance(node, ast.Attribute):
        return name_faults(node.attr)
    return operator_faults(node) + statement_faults(node)


def builtin_faults(tree):
    faults = []
    outer = set()
    for node in tree.body:
        if isinstance(node, ast.ImportFrom):
            outer |= {alias.asname or alias.name for alias in node.names}
        if isinstance(node, ast.ClassDef):
            outer.add(node.name)
    for node in ast.walk(tree):
        bound = None
        if isinstance(node, ast.arg):
            bound = node.arg
        elif isinstance(node, ast.Name) and isinstance(node.ctx, ast.Store):
            bound = node.id
        elif isinstance(node, ast.Name) and hasattr(builtins, node.id) and node.id not in OWN_NAMES:
            faults.append("L8 " + node.id)
        if bound is not None and (hasattr(builtins, bound) or bound in outer):
            faults.append("L15 " + bound)
    return faults


def import_faults(tree):
    faults = []
    for node in ast.walk(tree):
        if isinstance(node, ast.ImportFrom):
            if node.level or not (node.module or "").startswith("leanestate."):
                faults.append("L2 an import")
            if any(alias.name == "*" for alias in node.names):
                faults.append("L2 a star")
    return faults


def faults_of(text):
    tree = ast.parse(text)
    faults = text_faults(text) + top_faults(tree) + builtin_faults(tree) + import_faults(tree)
    for node in ast.walk(tree):
        faults.extend(node_faults(node))
        if isinstance(node, (ast.FunctionDef, ast.ClassDef)) and ast.get_docstring(node) is not None:
            faults.append("L6 a text by itself")
    return faults


def package_trees():
    return {path.stem: ast.parse(path.read_text(encoding="utf-8")) for path in sorted(PACKAGE.glob("*.py"))}


def defined_in(tree):
    names = {node.name for node in tree.body if isinstance(node, (ast.FunctionDef, ast.ClassDef))}
    for node in tree.body:
        if isinstance(node, ast.Assign):
            names |= {target.id for target in node.targets}
    return names


def drawn_by(tree):
    return [node for node in tree.body if isinstance(node, ast.ImportFrom)]


class Package(unittest.TestCase):
    def test_plain_files_alone(self):
        names = [path.name for path in PACKAGE.iterdir() if path.name != "__pycache__"]
        self.assertIn("__init__.py", names)
        names.remove("__init__.py")
        for name in names:
            with self.subTest(name=name):
                self.assertRegex(name, r"\A[a-z][a-z0-9_]*\.py\Z")
                self.assertFalse(hasattr(builtins, name[:-3]))
                self.assertNotIn(name[:-3], UNUSED | UNUSED_WORDS)
                self.assertFalse(name.startswith(("test", "site", "conftest", "usercustomize")))

    def test_each_file(self):
        for path in sorted(PACKAGE.glob("*.py")):
            with self.subTest(name=path.name):
                self.assertEqual(faults_of(path.read_text(encoding="utf-8")), [])

    def test_methods(self):
        trees = package_trees()
        known = set(METHODS)
        for tree in trees.values():
            for node in ast.walk(tree):
                if isinstance(node, ast.ClassDef):
                    known |= {part.name for part in node.body if isinstance(part, ast.FunctionDef)}
                if isinstance(node, ast.Attribute) and isinstance(node.ctx, ast.Store):
                    known.add(node.attr)
        for name, tree in trees.items():
            used = {node.attr for node in ast.walk(tree) if isinstance(node, ast.Attribute)}
            with self.subTest(name=name):
                self.assertEqual(used - known, set())

    def test_names_come_from_the_file_that_defines_them(self):
        trees = package_trees()
        for name, tree in trees.items():
            for node in drawn_by(tree):
                with self.subTest(name=name, module=node.module):
                    drawn = {alias.name for alias in node.names}
                    self.assertEqual(drawn - defined_in(trees[node.module.partition(".")[2]]), set())

    def test_no_two_files_draw_from_one_another(self):
        left = {
            name: {node.module.partition(".")[2] for node in drawn_by(tree)}
            for name, tree in package_trees().items()
        }
        while left:
            free = [name for name, drawn in left.items() if not drawn & set(left)]
            self.assertNotEqual(free, [], sorted(left))
            for name in free:
                del left[name]


class TheLookItself(unittest.TestCase):
    def test_good_code_passes(self):
        self.assertEqual(faults_of('"""Words."""\n\nMOST = 8\n\n\ndef same(one):\n    return one + 2 ** 3\n'), [])

    def test_bad_code_is_seen(self):
        for rule, text in (
            ("L2", "from math import gcd\n"), ("L2", "from leanestate.errors import *\n"),
            ("L3", "print(1)\n"), ("L4", "def f(*a):\n    return a\n"), ("L5", "class A:\n    a = 1\n"),
            ("L6", "import math\n"), ("L6", "a = b = 1\n"), ("L6", "def f():\n    assert 1\n"),
            ("L6", "def f():\n    'words'\n    return 1\n"), ("L6", "def f(a):\n    for b in a:\n        pass\n"
                                                               "    else:\n        pass\n"),
            ("L7", "def f(a):\n    return a / 2\n"), ("L7", "A = 1.5\n"), ("L7", "A = b'a'\n"),
            ("L7", "def f(a):\n    return sum(b for b in a)\n"), ("L7", "def f(a):\n    return [*a]\n"),
            ("L8", "def f(a):\n    return round(a)\n"), ("L8", "def f(a):\n    return chr(a)\n"),
            ("L10", "A = 1\n" + "# words\n" * 401), ("L10", "# " + "a" * 120 + "\n"),
            ("L10", "def f(a):\n" + "    a = a + 1\n" * 40), ("L12", "def f(_a):\n    return _a\n"),
            ("L14", "# \u00e9\n"), ("L14", "def f():\n\treturn 1\n"), ("L15", "A = 1\nA = 2\n"),
            ("L15", "def f(max):\n    return max\n"), ("L15", "def f(a):\n    hash = a\n    return hash\n"),
            ("L17", "# the type of it\n"), ("L17", "def f(a):\n    return a.register\n"),
            ("L19", "def f(a):\n    try:\n        f(a)\n    except Exception:\n        pass\n"),
            ("L20", "def f(a):\n    return a is f\n"), ("L27", "def f(a):\n    return 2 ** a\n"),
            ("L27", "A = 'a%'\n"),
        ):
            with self.subTest(rule=rule, text=text):
                self.assertTrue(any(rule in fault.split() for fault in faults_of(text)), faults_of(text))


if __name__ == "__main__":
    unittest.main()
