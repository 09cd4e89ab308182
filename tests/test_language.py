"""The rules of the language that can be read off a file's rows and tree; the others are for a reader."""

import ast
import builtins
import os
import re
import unittest

PACKAGE = "askviews"
FOLDER = os.path.join(os.path.dirname(os.path.dirname(os.path.abspath(__file__))), PACKAGE)
OWN_NAMES = set("""len range enumerate zip min max sum abs sorted reversed int str bool list tuple dict set frozenset
isinstance ord repr any all divmod Exception ValueError TypeError KeyError IndexError LookupError ZeroDivisionError
ArithmeticError OverflowError RuntimeError NotImplementedError AttributeError StopIteration""".split())
METHODS = set("""append clear copy count endswith extend find get index insert isalnum isalpha isdigit islower isspace
isupper items join keys ljust lower lstrip partition pop remove replace reverse rfind rjust rpartition rsplit rstrip
setdefault split splitlines startswith strip update upper values zfill bit_length""".split())
DUNDERS = set("__init__ __eq__ __repr__ __str__ __len__".split())
NEVER = set("register mro elements open input version_info with_traceback add_note format format_map".split())
WORDS = re.compile(r"\b(type|typing|typing_extensions|enum|Enum|IntEnum|StrEnum|Flag|IntFlag|Generic|Protocol|ABC"
                   r"|ABCMeta|namedtuple|NamedTuple|TypedDict|TYPE_CHECKING|abstractmethod)\b"
                   r"|dataclass|overload|contextmanager")
VALUE_NAMES = set("count index title find get join lower upper split strip copy add".split())
WALKED = set("zip enumerate reversed range".split())
WALKED_METHODS = set("items keys values".split())
WALKERS = set("list tuple dict sorted sum any all enumerate zip".split())
KEYWORDS = {"sorted": {"key", "reverse"}, "min": {"key", "default"}, "max": {"key", "default"}, "sum": {"start"},
            "enumerate": {"start"}, "zip": {"strict"}}
KINDS = set("""Module FunctionDef arguments arg ClassDef Return Assign AugAssign For While If Raise Try ExceptHandler
ImportFrom alias Expr Pass Break Continue BoolOp BinOp UnaryOp Lambda IfExp Dict Set ListComp comprehension Compare
Call keyword FormattedValue JoinedStr Constant Attribute Subscript Name List Tuple Slice Load Store And Or Not USub
Invert Add Sub Mult FloorDiv Mod Pow LShift RShift BitOr BitXor BitAnd Eq NotEq Lt LtE Gt GtE Is IsNot In
NotIn""".split())


def row_faults(source):
    rows = source.split("\n")
    faults = ["L10 file"] if len(rows) > 401 else []
    for number, row in enumerate(rows, start=1):
        if len(row) > 120:
            faults.append(f"L10 row {number}")
        if any(not " " <= sign <= "~" for sign in row):
            faults.append(f"L14 row {number}")
        if WORDS.search(row):
            faults.append(f"L17 row {number}")
    return faults


def is_doc(node):
    return isinstance(node, ast.Expr) and isinstance(node.value, ast.Constant) and isinstance(node.value.value, str)


def top_faults(tree):
    faults = []
    for place, node in enumerate(tree.body):
        if not isinstance(node, (ast.ImportFrom, ast.FunctionDef, ast.ClassDef, ast.Assign)):
            if not (place == 0 and is_doc(node)):
                faults.append(f"L3 row {node.lineno}")
    for node in ast.walk(tree):
        if isinstance(node, (ast.ImportFrom, ast.ClassDef)) and node not in tree.body:
            faults.append(f"L2 or L15 row {node.lineno}")
    return faults


def is_right_import(node):
    right = node.level == 0 and (node.module.startswith(PACKAGE + ".") or node.module == "__future__")
    return right and all(name.name != "*" and name.asname is None for name in node.names)


def is_right_function(node):
    given = node.args
    plain = not (given.vararg or given.kwarg or given.kwonlyargs or given.posonlyargs or node.decorator_list)
    return plain and node.end_lineno - node.lineno < 40 and not NEVER & {node.name} and is_right_name(node.name, True)


def is_right_class(node):
    body = [inner for inner in node.body if not isinstance(inner, (ast.FunctionDef, ast.Pass)) and not is_doc(inner)]
    return not body and len(node.bases) <= 1 and not node.keywords and not node.decorator_list


def is_right_name(name, method=False):
    return bool(re.fullmatch(r"[A-Za-z][A-Za-z0-9_]*", name)) or (method and name in DUNDERS)


def is_right_use(node):
    if isinstance(node.ctx, ast.Store) and node.id in dir(builtins):
        return False
    known = node.id in OWN_NAMES or node.id not in dir(builtins)
    return known and node.id not in NEVER and is_right_name(node.id)


def is_single(node):
    return isinstance(node, ast.Constant) and any(node.value is single for single in (None, True, False))


def is_right_compare(node):
    beside = [node.left] + node.comparators
    for place, sign in enumerate(node.ops):
        if isinstance(sign, (ast.Is, ast.IsNot)) and not (is_single(beside[place]) or is_single(beside[place + 1])):
            return False
    return True


def is_right_constant(node):
    plain = node.value is None or isinstance(node.value, (bool, int, str))
    return plain and not (isinstance(node.value, str) and "%" in node.value)


def is_right_power(node):
    return not isinstance(node.op, ast.Pow) or isinstance(node.right, ast.Constant)


def is_right(node):
    checks = (
        (ast.ImportFrom, is_right_import),
        (ast.FunctionDef, is_right_function),
        (ast.ClassDef, is_right_class),
        (ast.Name, is_right_use),
        (ast.arg, lambda one: is_right_name(one.arg) and one.arg not in dir(builtins)),
        (ast.Attribute, lambda one: one.attr not in NEVER and is_right_name(one.attr, True)),
        (ast.Compare, is_right_compare),
        (ast.Constant, is_right_constant),
        (ast.BinOp, is_right_power),
        (ast.FormattedValue, lambda one: isinstance(one.value, ast.Name) and one.format_spec is None),
        (ast.Assign, lambda one: len(one.targets) == 1),
        (ast.ListComp, lambda one: len(one.generators) == 1 and len(one.generators[0].ifs) <= 1),
        (ast.Try, lambda one: not one.finalbody),
        (ast.ExceptHandler, lambda one: one.type is not None),
        ((ast.For, ast.While), lambda one: not one.orelse),
        (ast.Expr, lambda one: isinstance(one.value, ast.Call) or is_doc(one)),
    )
    return type(node).__name__ in KINDS and all(check(node) for kind, check in checks if isinstance(node, kind))


def called(node, names):
    return isinstance(node, ast.Call) and isinstance(node.func, ast.Name) and node.func.id in names


def parents_of(tree):
    parents = {}
    for node in ast.walk(tree):
        for inner in ast.iter_child_nodes(node):
            parents[inner] = node
    return parents


def is_walked_thing(node):
    method = isinstance(node, ast.Call) and isinstance(node.func, ast.Attribute) and node.func.attr in WALKED_METHODS
    return method or called(node, WALKED)


def is_walked_at_once(node, parent):
    if isinstance(parent, (ast.For, ast.comprehension)):
        return parent.iter is node
    if called(parent, WALKERS):
        return parent.args[0] is node
    if called(parent, {"min", "max"}):
        return len(parent.args) == 1 and not parent.keywords
    written = isinstance(parent, ast.Call) and isinstance(parent.func, ast.Attribute) and parent.func.attr == "join"
    return written and isinstance(parent.func.value, ast.Constant)


def is_set(node):
    return isinstance(node, ast.Set) or called(node, {"set", "frozenset"})


def is_right_set(node, parents):
    parent = parents[node]
    while isinstance(parent, ast.BinOp) and isinstance(parent.op, (ast.Sub, ast.BitAnd, ast.BitOr, ast.BitXor)):
        parent = parents[parent]
    if isinstance(parent, ast.Compare):
        return all(isinstance(sign, (ast.In, ast.NotIn, ast.Eq, ast.NotEq)) for sign in parent.ops)
    return called(parent, {"sorted", "len"}) and not parent.keywords


def place_faults(tree):
    parents = parents_of(tree)
    faults = []
    for node in ast.walk(tree):
        if is_walked_thing(node) and not is_walked_at_once(node, parents[node]):
            faults.append(f"L23 row {node.lineno}")
        if is_set(node) and not is_right_set(node, parents):
            faults.append(f"L24 row {node.lineno}")
        if called(node, OWN_NAMES) and {word.arg for word in node.keywords} - KEYWORDS.get(node.func.id, set()):
            faults.append(f"L22 row {node.lineno}")
    return faults


def bound_at_top(tree):
    names = []
    for node in tree.body:
        if isinstance(node, (ast.FunctionDef, ast.ClassDef)):
            names.append(node.name)
        if isinstance(node, ast.Assign):
            names.extend([target.id for target in node.targets if isinstance(target, ast.Name)])
    return names


def is_plain(node, above):
    if isinstance(node, (ast.List, ast.Tuple)):
        return all(is_plain(inner, above) for inner in node.elts)
    if isinstance(node, ast.Dict):
        return all(is_plain(inner, above) for inner in node.keys + node.values)
    return isinstance(node, ast.Constant) or (isinstance(node, ast.Name) and node.id in above)


def top_value_faults(tree):
    """L3 and L15: plain values, functions defined above, and no list or dict within a list or dict."""
    faults, above, holding = [], [], []
    for node in tree.body:
        if isinstance(node, ast.FunctionDef):
            above.append(node.name)
        if isinstance(node, ast.Assign):
            inner = [held for held in ast.walk(node.value) if isinstance(held, (ast.List, ast.Dict))]
            if not is_plain(node.value, above) or len(inner) > isinstance(node.value, (ast.List, ast.Dict)):
                faults.append(f"L3 or L15 row {node.lineno}")
            if inner:
                holding.extend([target.id for target in node.targets])
    parents = parents_of(tree)
    for node in ast.walk(tree):
        if isinstance(node, ast.Name) and isinstance(node.ctx, ast.Load) and node.id in holding:
            if not is_only_read(node, parents[node]):
                faults.append(f"L15 {node.id} row {node.lineno}")
    return faults


def is_only_read(node, parent):
    if isinstance(parent, ast.Subscript):
        return parent.value is node and isinstance(parent.ctx, ast.Load)
    if isinstance(parent, (ast.For, ast.comprehension)):
        return parent.iter is node
    if isinstance(parent, ast.Attribute):
        return parent.attr in {"get", "index", "count", "items", "keys", "values"}
    return isinstance(parent, ast.Compare) or called(parent, {"len", "list", "dict", "tuple", "sorted", "enumerate"})


def object_faults(trees):
    """L18 and L26, over the whole package: names of methods and of the values of objects."""
    methods, kept = set(), set()
    for tree in trees:
        for node in ast.walk(tree):
            if isinstance(node, ast.ClassDef):
                names = [inner.name for inner in node.body if isinstance(inner, ast.FunctionDef)]
                methods |= set(names)
                if len(set(names)) < len(names):
                    return [f"L18 a method twice in {node.name}"]
            if isinstance(node, ast.Attribute) and isinstance(node.ctx, ast.Store):
                kept.add(node.attr)
    own = {name for kind in (str, int, list, dict, set, bytes, tuple) for name in dir(kind)}
    faults = [f"L18 {name}" for name in sorted(methods & kept)]
    faults += [f"L26 {name}" for name in sorted(kept & (own | {"args"}) - VALUE_NAMES)]
    return faults + [f"L26 {name}" for name in sorted((methods - DUNDERS) & own - METHODS - {"add", "discard"})]


def drawn(tree):
    return [(node.module, name.name) for node in tree.body if isinstance(node, ast.ImportFrom) for name in node.names]


def name_faults(tree):
    imported = [name for module, name in drawn(tree)]
    top = bound_at_top(tree) + imported
    faults = [f"L15 {name} twice" for name in sorted(set(top)) if top.count(name) > 1]
    kept_free = set(imported) | {node.name for node in tree.body if isinstance(node, ast.ClassDef)}
    for node in ast.walk(tree):
        name = node.arg if isinstance(node, ast.arg) else None
        if isinstance(node, ast.Name) and isinstance(node.ctx, ast.Store):
            name = node.id
        if name in kept_free:
            faults.append(f"L15 {name} row {node.lineno}")
    return faults


def import_faults(trees):
    """Of a dict from modules to trees: each name drawn from the file that defines it, and no two from one another."""
    faults = []
    reached = {module: {other for other, name in drawn(tree)} for module, tree in trees.items()}
    for module, tree in trees.items():
        for other, name in drawn(tree):
            if other not in trees or name not in bound_at_top(trees[other]):
                faults.append(f"L16 {module} draws {name}")
    for unused in trees:
        reached = {module: others.union(*[reached.get(other, set()) for other in others])
                   for module, others in reached.items()}
    return faults + [f"L16 {module} in a ring" for module, others in reached.items() if module in others]


def faults_of(source, own_methods=()):
    tree = ast.parse(source)
    faults = row_faults(source) + top_faults(tree) + place_faults(tree) + name_faults(tree) + top_value_faults(tree)
    for node in ast.walk(tree):
        if not is_right(node):
            faults.append(f"{type(node).__name__} row {getattr(node, 'lineno', 0)}")
        if isinstance(node, ast.Call) and isinstance(node.func, ast.Attribute):
            if node.func.attr not in METHODS and node.func.attr not in own_methods and node.func.attr != "__init__":
                faults.append(f"L25 {node.func.attr} row {node.lineno}")
    return faults


def methods_of(source):
    classes = [node for node in ast.parse(source).body if isinstance(node, ast.ClassDef)]
    return [inner.name for node in classes for inner in node.body if isinstance(inner, ast.FunctionDef)]


class Language(unittest.TestCase):
    def sources(self):
        told = {}
        for name in sorted(os.listdir(FOLDER)):
            if name != "__pycache__":
                with open(os.path.join(FOLDER, name), encoding="utf-8", newline="") as file:
                    told[name] = file.read()
        return told

    def test_files(self):
        names = list(self.sources())
        self.assertIn("__init__.py", names)
        for name in names:
            self.assertRegex(name, r"\A([a-z][a-z0-9_]*|__init__)\.py\Z")

    def test_each_file_keeps_to_the_rules(self):
        sources = self.sources()
        own = [name for source in sources.values() for name in methods_of(source)]
        for name, source in sources.items():
            with self.subTest(file=name):
                self.assertEqual(faults_of(source, own), [])

    def test_what_the_files_draw_from_one_another(self):
        trees = {}
        for name, source in self.sources().items():
            trees[PACKAGE + "." + name[:-3] if name != "__init__.py" else PACKAGE] = ast.parse(source)
        self.assertEqual(import_faults(trees), [])

    def test_the_methods_and_values_of_objects(self):
        self.assertEqual(object_faults([ast.parse(source) for source in self.sources().values()]), [])
        for source in (
            "class A:\n    def f(self):\n        self.f = 1\n", "class A:\n    def f(self):\n        self.items = 1\n",
            "class A:\n    def title(self):\n        return 1\n", "def f(a):\n    a.args = 1\n",
            "class A:\n    def f(self):\n        return 1\n\n    def f(self):\n        return 2\n",
        ):
            self.assertNotEqual(object_faults([ast.parse(source)]), [])

    def test_faults_of_drawing_are_seen(self):
        defined = "def f():\n    return 1\n"
        drawing = "from askviews.a import f\n"
        for sources in (
            {"askviews.a": "x = 1\n", "askviews.b": drawing},
            {"askviews.a": defined, "askviews.b": drawing, "askviews.c": "from askviews.b import f\n"},
            {"askviews.a": defined + "from askviews.b import g\n", "askviews.b": drawing + "def g():\n    return 1\n"},
            {"askviews.b": drawing},
        ):
            trees = {module: ast.parse(source) for module, source in sources.items()}
            self.assertNotEqual(import_faults(trees), [])
        self.assertEqual(import_faults({"askviews.a": ast.parse(defined), "askviews.b": ast.parse(drawing)}), [])

    def test_right_forms_are_no_faults(self):
        for source in (
            "def f(a):\n    return sorted(set(a))\n", "def f(a, b):\n    return set(a) == set(b)\n",
            "def f(a, b):\n    return len(set(a) | set(b))\n", "def f(a):\n    return sorted(a.items())\n",
            "def f(a):\n    return dict(zip(a, a))\n", "def f(a):\n    return [b for b in range(a)]\n",
            "def f(a):\n    return max(a, key=lambda b: b[0])\n", "def f(a, b=None):\n    return f(a, b=a)\n",
            "def f(a):\n    return a\nX = {'a': (f, 1)}\ndef g(a):\n    return X[a][0](a) if a in X else len(X)\n",
        ):
            with self.subTest(source=source):
                self.assertEqual(faults_of(source), [])

    def test_faults_are_seen(self):
        for source in (
            "import os\n", "from .terms import x\n", "from os import path\n", "from askviews.terms import *\n",
            "x = 1.5\n", "x = b''\n", "x = 3 / 2\n", "x = y = 1\n", "print(1)\n", "x = 'a\u00e9'\n", "x = '%'\n",
            "def f(*a):\n    return a\n", "def f(a):\n    yield a\n", "def f(a):\n    return hash(a)\n",
            "def f(a):\n    return a.title()\n", "def f(a):\n    return a is 'b'\n", "def f(list):\n    return 1\n",
            "def f(a):\n    return {b for b in a}\n", "def f(a):\n    return all(b for b in a)\n",
            "def f(a):\n    _x = a\n    return _x\n", "class A:\n    x = 1\n", "x = 1  # its type\n",
            "def f(a):\n    for b in a:\n        pass\n    else:\n        return 1\n", "x = 1\t\n",
            "def f(a):\n    return 2 ** a\n", "def f(a):\n" + "    a = a\n" * 40, "x = 1\n" * 401,
            "x = '" + "a" * 120 + "'\n", "def f(a):\n    assert a\n", "def f(a):\n    a\n",
            "def f(a):\n    return f'{a + 1}'\n", "def f(a):\n    return f'{a:3}'\n",
            "def f(a):\n    b = set(a)\n    return b\n", "def f(a):\n    return [b for b in set(a)]\n",
            "def f(a):\n    return sorted(set(a), key=len)\n", "def f(a):\n    return set(a) < set(a)\n",
            "def f(a):\n    b = a.items()\n    return b\n", "def f(a):\n    return max(a.values(), default=0)\n",
            "def f(a):\n    return list(reversed(range(a)))\n", "def f(a):\n    return int(a, base=8)\n",
            "def f(a):\n    return sorted(a, k=len)\n", "x = 1\nx = 2\n",
            "x = [[1]]\n", "x = {'a': [1]}\n", "x = (1, f)\ndef f(a):\n    return a\n", "x = len\n",
            "x = [1]\ndef f(a):\n    return x\n", "x = [1]\ndef f(a):\n    x.append(a)\n",
            "x = {}\ndef f(a):\n    x[a] = 1\n", "x = {}\ndef f(a):\n    y = x\n    return y\n",
            "class A:\n    pass\ndef f(A):\n    return A\n",
            "from askviews.terms import is_term\ndef f(a):\n    is_term = a\n    return is_term\n",
        ):
            with self.subTest(source=source[:60]):
                self.assertNotEqual(faults_of(source), [])


if __name__ == "__main__":
    unittest.main()
