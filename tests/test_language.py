"""The package keeps to ../shared/LANGUAGE.md: those of its rules that can be seen in the files' trees.

For each rule that is asked here, a piece of code that breaks it is asked too, so that the asking is tested.
"""

import ast
import pathlib
import re
import unittest

PACKAGE = pathlib.Path(__file__).resolve().parent.parent / "washedsheets"

STATEMENTS = (ast.FunctionDef, ast.ClassDef, ast.ImportFrom, ast.Assign, ast.AugAssign, ast.If, ast.While, ast.For,
              ast.Return, ast.Break, ast.Continue, ast.Pass, ast.Raise, ast.Try, ast.Expr)
EXPRESSIONS = (ast.Constant, ast.Name, ast.Attribute, ast.Subscript, ast.Slice, ast.Call, ast.BinOp, ast.UnaryOp,
               ast.BoolOp, ast.Compare, ast.IfExp, ast.List, ast.Tuple, ast.Dict, ast.ListComp, ast.JoinedStr,
               ast.FormattedValue)
BUILT_IN = set("""len range enumerate zip min max sum abs sorted reversed int str bool list tuple dict set frozenset
isinstance ord repr any all divmod Exception ValueError TypeError KeyError IndexError LookupError ZeroDivisionError
ArithmeticError OverflowError RuntimeError NotImplementedError StopIteration""".split())
METHODS = set("""append clear copy count endswith extend find get index insert isalnum isalpha isdigit islower isspace
isupper items join keys ljust lower lstrip partition pop remove replace reverse rfind rjust rpartition rsplit rstrip
setdefault split splitlines startswith strip update upper values zfill bit_length""".split())
PYTHONS_OWN = set(dir(__builtins__) if not isinstance(__builtins__, dict) else __builtins__)
OWN_VALUES_HAVE = set().union(*[dir(kind) for kind in (str, int, list, dict, set, bytes, tuple)])
NOT_USED = set("register mro elements open input version_info with_traceback add_note format format_map".split())
WORDS = re.compile(r"\b(type|typing|typing_extensions|enum|Enum|IntEnum|StrEnum|Flag|IntFlag|Generic|Protocol|ABC|"
                   r"ABCMeta|namedtuple|NamedTuple|TypedDict|TYPE_CHECKING|abstractmethod)\b|"
                   r"dataclass|overload|contextmanager")
WALKED = ("zip", "enumerate", "reversed", "range")
WALKERS = ("list", "tuple", "dict", "sorted", "sum", "any", "all", "enumerate", "zip", "min", "max")


def faults_of_text(text):
    found = []
    lines = text.split("\n")
    if len(lines) - 1 > 400:
        found.append("L10 file")
    if any(len(line) > 120 for line in lines):
        found.append("L10 line")
    if not all(sign == "\n" or " " <= sign <= "~" for sign in text):
        found.append("L14 sign")
    if WORDS.search(text):
        found.append("L17 word")
    return found


def is_plain(node):
    if isinstance(node, (ast.List, ast.Tuple)):
        return all(is_plain(part) for part in node.elts)
    if isinstance(node, ast.Dict):
        return all(is_plain(part) for part in node.keys + node.values)
    if isinstance(node, ast.UnaryOp) and isinstance(node.op, ast.USub):
        return is_plain(node.operand)
    if isinstance(node, ast.Name):
        return True
    return isinstance(node, ast.Constant) and not isinstance(node.value, (float, bytes, complex))


def faults_of_top(tree):
    found, names = [], []
    for place, node in enumerate(tree.body):
        if isinstance(node, ast.ImportFrom):
            names += [alias.name for alias in node.names]
            if node.level or not (node.module or "").startswith("washedsheets."):
                found.append("L2 import")
            if any(alias.name == "*" for alias in node.names):
                found.append("L2 star")
        elif isinstance(node, ast.Assign):
            names += [target.id for target in node.targets if isinstance(target, ast.Name)]
            if not is_plain(node.value) or isinstance(node.value, ast.Name):
                found.append("L3 value")
            if isinstance(node.value, (ast.List, ast.Dict)) and any(
                    isinstance(part, (ast.List, ast.Dict)) for part in ast.walk(node.value) if part is not node.value):
                found.append("L15 nested")
        elif isinstance(node, (ast.FunctionDef, ast.ClassDef)):
            names.append(node.name)
        elif not (place == 0 and isinstance(node, ast.Expr) and isinstance(node.value, ast.Constant)):
            found.append("L3 top")
    if len(names) != len(set(names)):
        found.append("L15 twice")
    return found


def faults_of_def(node, top_names):
    found = []
    given = node.args
    if given.vararg or given.kwarg or given.kwonlyargs or given.posonlyargs or node.decorator_list:
        found.append("L4")
    if node.returns or any(one.annotation for one in given.args):
        found.append("L21")
    if node.end_lineno - node.lineno + 1 > 40:
        found.append("L10 def")
    if node.name.startswith("_") and node.name not in ("__init__", "__eq__", "__repr__", "__str__", "__len__"):
        found.append("L12")
    stored = [part.id for part in ast.walk(node) if isinstance(part, ast.Name) and isinstance(part.ctx, ast.Store)]
    for name in [one.arg for one in given.args] + stored:
        if name in top_names or name in PYTHONS_OWN:
            found.append("L15 name")
        if name.startswith("_"):
            found.append("L12")
    return found


def faults_of_class(node):
    found = []
    if node.decorator_list or node.keywords or len(node.bases) > 1:
        found.append("L5")
    if any(not isinstance(part, ast.FunctionDef) for part in node.body):
        found.append("L5 body")
    names = [part.name for part in node.body if isinstance(part, ast.FunctionDef)]
    if len(names) != len(set(names)):
        found.append("L18 twice")
    return found


def faults_of_loop(node):
    found = []
    if node.orelse:
        found.append("L6 else")
    if isinstance(node, ast.For):
        walked = {ast.dump(part) for part in ast.walk(node.iter) if isinstance(part, (ast.Name, ast.Attribute))}
        for part in ast.walk(ast.Module(body=node.body, type_ignores=[])):
            changed = isinstance(part, ast.Subscript) and isinstance(part.ctx, ast.Store)
            called = isinstance(part, ast.Call) and isinstance(part.func, ast.Attribute) and part.func.attr in (
                "append", "clear", "extend", "insert", "pop", "remove", "reverse", "setdefault", "update")
            whole = part.value if changed else part.func.value if called else None
            if whole is not None and ast.dump(whole) in walked:
                found.append("L23 changed")
    return found


def faults_of_node(node):
    found = []
    if isinstance(node, ast.stmt) and not isinstance(node, STATEMENTS):
        found.append("L6")
    if isinstance(node, ast.expr) and not isinstance(node, EXPRESSIONS):
        found.append("L7")
    if isinstance(node, ast.Assign) and (len(node.targets) != 1 or isinstance(node.targets[0], (ast.Tuple, ast.List))):
        found.append("L6 targets")
    if isinstance(node, ast.Expr) and not isinstance(node.value, (ast.Call, ast.Constant)):
        found.append("L6 alone")
    if isinstance(node, ast.Try) and node.finalbody:
        found.append("L6 finally")
    if isinstance(node, (ast.Div, ast.MatMult)):
        found.append("L7 /")
    if isinstance(node, ast.Constant) and isinstance(node.value, (float, bytes, complex)):
        found.append("L7 value")
    if isinstance(node, ast.ListComp) and (len(node.generators) != 1 or len(node.generators[0].ifs) > 1):
        found.append("L7 list")
    if isinstance(node, ast.BinOp) and isinstance(node.op, ast.Pow) and not isinstance(node.right, ast.Constant):
        found.append("L27")
    if isinstance(node, (ast.Name, ast.Attribute)):
        name = node.id if isinstance(node, ast.Name) else node.attr
        if name in NOT_USED:
            found.append("L17")
    if isinstance(node, ast.Compare):
        for operator, side in zip(node.ops, node.comparators):
            if isinstance(operator, (ast.Is, ast.IsNot)):
                if not (isinstance(side, ast.Constant) and side.value in (None, True, False)):
                    found.append("L20")
    return found


def faults_of_walks(tree):
    """range(..) and its like stand behind an `in`, or as the first thing in one of Python's own that walks it."""
    at_home = []
    for node in ast.walk(tree):
        if isinstance(node, (ast.For, ast.comprehension)):
            at_home.append(node.iter)
        if isinstance(node, ast.Call) and isinstance(node.func, ast.Name) and node.func.id in WALKERS:
            at_home += node.args[:1]
    return ["L23" for node in ast.walk(tree)
            if isinstance(node, ast.Call) and isinstance(node.func, ast.Name) and node.func.id in WALKED
            and not any(node is one for one in at_home)]


def faults_of_names(tree, own_methods):
    """Python's own names and methods that are not listed."""
    found = []
    bound = {node.name for node in ast.walk(tree) if isinstance(node, (ast.FunctionDef, ast.ClassDef))}
    for node in ast.walk(tree):
        if isinstance(node, ast.alias):
            bound.add(node.asname or node.name)
        if isinstance(node, ast.arg):
            bound.add(node.arg)
        if isinstance(node, ast.Name) and isinstance(node.ctx, ast.Store):
            bound.add(node.id)
    for node in ast.walk(tree):
        if isinstance(node, ast.Name) and node.id not in bound and node.id not in BUILT_IN:
            found.append("L8")
        if isinstance(node, ast.Call) and isinstance(node.func, ast.Attribute):
            if node.func.attr not in METHODS and node.func.attr not in own_methods:
                found.append("L25")
    return found


def methods_of(trees):
    return {part.name for tree in trees for node in ast.walk(tree) if isinstance(node, ast.ClassDef)
            for part in node.body if isinstance(part, ast.FunctionDef)}


def values_of(trees):
    return {node.attr for tree in trees for node in ast.walk(tree)
            if isinstance(node, ast.Attribute) and isinstance(node.ctx, ast.Store)}


def faults_of_source(text, own_methods=()):
    tree = ast.parse(text)
    found = faults_of_text(text) + faults_of_top(tree) + faults_of_walks(tree) + faults_of_names(tree, own_methods)
    top_names = {node.name for node in tree.body if isinstance(node, ast.ClassDef)}
    top_names |= {alias.name for node in tree.body if isinstance(node, ast.ImportFrom) for alias in node.names}
    for node in ast.walk(tree):
        found += faults_of_node(node)
        if isinstance(node, ast.FunctionDef):
            found += faults_of_def(node, top_names)
        elif isinstance(node, ast.ClassDef):
            found += faults_of_class(node)
        elif isinstance(node, (ast.For, ast.While)):
            found += faults_of_loop(node)
    return found


class Package(unittest.TestCase):
    def setUp(self):
        self.files = sorted(path for path in PACKAGE.rglob("*") if "__pycache__" not in path.parts)
        self.texts = {path.name: path.read_text(encoding="utf-8") for path in self.files}
        self.trees = {name: ast.parse(text) for name, text in self.texts.items()}

    def test_files(self):
        self.assertIn("__init__.py", self.texts)
        self.assertIn("desk.py", self.texts)
        for path in self.files:
            self.assertEqual(path.parent, PACKAGE)
            self.assertRegex(path.name, r"^([a-z][a-z0-9_]*|__init__|__main__)\.py$")
            self.assertNotIn(path.stem, PYTHONS_OWN)

    def test_each_file(self):
        own_methods = methods_of(self.trees.values())
        for name, text in self.texts.items():
            with self.subTest(name=name):
                self.assertEqual(faults_of_source(text, own_methods), [])

    def test_methods_and_values_have_names_of_their_own(self):
        methods, values = methods_of(self.trees.values()), values_of(self.trees.values())
        self.assertEqual(methods & values, set())
        self.assertEqual((methods | values) & OWN_VALUES_HAVE - {"__init__"}, set())

    def test_imports_come_from_the_defining_file_and_never_in_a_ring(self):
        drawn = {}
        for name, tree in self.trees.items():
            drawn[name] = []
            for node in tree.body:
                if isinstance(node, ast.ImportFrom):
                    source = node.module.split(".")[1] + ".py"
                    defined = {part.name for part in self.trees[source].body if hasattr(part, "name")}
                    self.assertEqual({alias.name for alias in node.names} - defined, set())
                    drawn[name].append(source)
        while drawn:
            free = [name for name in drawn if not any(source in drawn for source in drawn[name])]
            self.assertNotEqual(free, [])
            drawn = {name: sources for name, sources in drawn.items() if name not in free}


class Asking(unittest.TestCase):
    BROKEN = {
        "L2 import": "import_from = 1\nfrom math import gcd\n",
        "L3 value": "a = 1 + 2\n",
        "L3 top": "if 1:\n    pass\n",
        "L4": "def f(*a):\n    return a\n",
        "L5 body": "class A:\n    a = 1\n",
        "L6": "def f(a):\n    assert a\n",
        "L6 targets": "def f(a):\n    b = c = a\n    return b + c\n",
        "L6 else": "def f(a):\n    while a:\n        pass\n    else:\n        pass\n",
        "L7": "def f(a):\n    return {x for x in a}\n",
        "L7 /": "def f(a):\n    return a / 2\n",
        "L7 value": "def f():\n    return 1.5\n",
        "L7 list": "def f(a):\n    return [x for y in a for x in y]\n",
        "L8": "def f(a):\n    return map(f, a)\n",
        "L10 def": "def f(a):\n" + "    a = a + 1\n" * 40,
        "L10 line": "a = '" + "b" * 120 + "'\n",
        "L12": "def f(_):\n    return 1\n",
        "L14 sign": "a = '\t'\n",
        "L15 name": "def f(id):\n    return 1\n",
        "L15 nested": "a = [[1]]\n",
        "L15 twice": "a = 1\na = 2\n",
        "L17": "class A:\n    def open(self):\n        return self.open\n",
        "L17 word": "# the type of it\n",
        "L20": "def f(a, b):\n    return a is b\n",
        "L21": "def f(a: int):\n    return a\n",
        "L23": "def f(a):\n    for k in reversed(range(a)):\n        pass\n",
        "L23 changed": "def f(a):\n    for b in a:\n        a.append(b)\n",
        "L25": "def f(a):\n    a.sort()\n",
        "L27": "def f(a):\n    return 2 ** a\n",
    }

    def test_each_broken_rule_is_found(self):
        for rule, text in self.BROKEN.items():
            with self.subTest(rule=rule):
                self.assertIn(rule, faults_of_source(text))

    def test_plain_code_is_taken(self):
        text = ('"""A."""\n\nA = (1, (2, -3))\n\n\n'
                'def f(b):\n    c = [x for x in b if x]\n    c.append(A[0])\n    return c\n')
        self.assertEqual(faults_of_source(text), [])


if __name__ == "__main__":
    unittest.main()
