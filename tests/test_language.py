"""Holds the package's files to the small part of Python that they keep to, as far as a look at them can tell."""

import ast
import builtins
import pathlib
import re
import unittest

PACKAGE = pathlib.Path(__file__).resolve().parent.parent / "slitview"

OWN_NAMES = set("""len range enumerate zip min max sum abs sorted reversed int str bool list tuple dict set frozenset
isinstance ord repr any all divmod Exception ValueError TypeError KeyError IndexError LookupError ZeroDivisionError
ArithmeticError OverflowError RuntimeError NotImplementedError AttributeError StopIteration""".split())

METHODS = set("""append clear copy count endswith extend find get index insert isalnum isalpha isdigit islower isspace
isupper items join keys ljust lower lstrip partition pop remove replace reverse rfind rjust rpartition rsplit rstrip
setdefault split splitlines startswith strip update upper values zfill bit_length""".split())

NODES = set("""Module Expr ImportFrom alias FunctionDef arguments arg ClassDef Lambda Assign AugAssign If While For Return
Break Continue Pass Raise Try ExceptHandler Call keyword Constant List Tuple Dict Set BinOp UnaryOp BoolOp Compare IfExp
Attribute Subscript Slice ListComp comprehension JoinedStr FormattedValue Name Load Store Add Sub Mult FloorDiv Mod Pow
BitAnd BitOr BitXor LShift RShift Invert UAdd USub Not And Or Eq NotEq Lt LtE Gt GtE Is IsNot In NotIn""".split())

WORDS = set("""type typing typing_extensions enum Enum IntEnum StrEnum Flag IntFlag Generic Protocol ABC ABCMeta
namedtuple NamedTuple TypedDict TYPE_CHECKING abstractmethod register mro elements open input version_info
with_traceback add_note""".split())

DUNDERS = set("__init__ __eq__ __repr__ __str__ __len__".split())
BARRED_FILES = set("test tests testing site conftest sitecustomize usercustomize".split()) | WORDS | set(dir(builtins))

FREE_VALUES = set("count index title find get join lower upper split strip copy add".split())
NAMES_OF_PYTHONS_VALUES = {name for value in ("", 0, [], {}, set(), b"", ()) for name in dir(value)} | {"args"}


def files():
    return [path for path in sorted(PACKAGE.iterdir()) if path.name != "__pycache__"]


def bound_at_top(tree):
    names = []
    for node in tree.body:
        if isinstance(node, (ast.FunctionDef, ast.ClassDef)):
            names.append(node.name)
        elif isinstance(node, ast.Assign):
            names.append(node.targets[0].id)
        elif isinstance(node, ast.ImportFrom):
            names.extend(alias.name for alias in node.names)
    return names


def defined_at_top(tree):
    return bound_at_top(ast.Module([node for node in tree.body if not isinstance(node, ast.ImportFrom)], []))


def faults_of_text(text):
    for number, line in enumerate(text.split("\n"), 1):
        if len(line) > 120:
            yield number, "L10 a long line"
        if re.search(r"[^ -~]", line):
            yield number, "L14 a sign that is not used"
        for word in re.findall(r"[A-Za-z0-9_]+", line):
            if word in WORDS or re.search("dataclass|overload|contextmanager", word):
                yield number, "L17 " + word
    if text.count("\n") > 400:
        yield 0, "L10 a long file"


def fault_of_def(node):
    given = node.args
    if given.vararg or given.kwarg or given.kwonlyargs or given.posonlyargs:
        return "L4 parameters"
    if isinstance(node, ast.FunctionDef) and (node.decorator_list or node.end_lineno - node.lineno >= 40):
        return "L4 L10 a decorator, or a long function"
    return None


def fault_of_class(node):
    if node.decorator_list or node.keywords or len(node.bases) > 1:
        return "L5 a class"
    if not all(isinstance(inner, (ast.FunctionDef, ast.Pass)) for inner in node.body):
        return "L5 a class body"
    return None


def is_plain_constant(node):
    return isinstance(node, ast.Constant) and any(node.value is value for value in (None, True, False))


def fault_of_node(node):
    kind = node.__class__.__name__
    if kind not in NODES:
        return "L6 L7 " + kind
    if kind in ("FunctionDef", "Lambda"):
        return fault_of_def(node)
    if kind == "ClassDef":
        return fault_of_class(node)
    if kind == "Assign" and (len(node.targets) != 1):
        return "L6 several targets"
    if kind in ("For", "While") and node.orelse:
        return "L6 else behind a loop"
    if kind == "Try" and node.finalbody:
        return "L6 finally"
    if kind == "ExceptHandler" and (node.type is None or getattr(node.type, "id", "") in ("Exception", "TypeError")):
        return "L19 a handler"
    if kind == "ListComp" and (len(node.generators) != 1 or len(node.generators[0].ifs) > 1):
        return "L7 a comprehension"
    if kind == "Constant" and not (node.value is None or isinstance(node.value, (int, str))):
        return "L7 a value"
    if kind == "Constant" and isinstance(node.value, str) and "%" in node.value:
        return "L27 a sign within a text"
    if kind == "FormattedValue" and not (isinstance(node.value, ast.Name) and node.format_spec is None):
        return "L7 an f-string"
    if kind == "BinOp" and isinstance(node.op, ast.Pow):
        if not (isinstance(node.right, ast.Constant) and node.right.value in range(65)):
            return "L27 an exponent"
    if kind == "Compare" and any(isinstance(op, (ast.Is, ast.IsNot)) for op in node.ops):
        if not any(is_plain_constant(side) for side in [node.left] + node.comparators):
            return "L20 is"
    if kind == "Expr" and not isinstance(node.value, ast.Call):
        return "L6 an expression by itself"
    return None


def own_names(tree):
    """All names that are bound within the file: (name, node, whether it is bound within a def)."""
    for node in ast.walk(tree):
        if isinstance(node, ast.arg):
            yield node.arg, node, True
        elif isinstance(node, ast.Name) and isinstance(node.ctx, ast.Store):
            yield node.id, node, node not in [one.targets[0] for one in tree.body if isinstance(one, ast.Assign)]
        elif isinstance(node, (ast.FunctionDef, ast.ClassDef)):
            yield node.name, node, False


def faults_of_names(tree, methods):
    top = bound_at_top(tree)
    taken = [name for name in top if name not in defined_at_top(tree)]
    taken += [node.name for node in tree.body if isinstance(node, ast.ClassDef)]
    if len(set(top)) != len(top):
        yield 0, "L15 a name bound twice"
    bound = set(top)
    for name, node, inner in own_names(tree):
        bound.add(name)
        if name.startswith("_") and name not in DUNDERS:
            yield node.lineno, "L12 " + name
        if inner and (name in taken or hasattr(builtins, name)):
            yield node.lineno, "L15 " + name
    for node in ast.walk(tree):
        if isinstance(node, ast.Name) and node.id not in bound and node.id not in OWN_NAMES:
            yield node.lineno, "L8 " + node.id
        if isinstance(node, ast.Call) and isinstance(node.func, ast.Attribute):
            if node.func.attr not in METHODS | methods:
                yield node.lineno, "L25 " + node.func.attr


def faults_of_top(tree, defined):
    body = tree.body
    if body and isinstance(body[0], ast.Expr) and isinstance(getattr(body[0].value, "value", None), str):
        body = body[1:]
    for node in body:
        if isinstance(node, ast.ImportFrom):
            for alias in node.names:
                if node.level or alias.asname or alias.name not in defined.get(node.module, []):
                    yield node.lineno, "L2 L16 an import"
        elif not isinstance(node, (ast.FunctionDef, ast.ClassDef, ast.Assign)):
            yield node.lineno, "L3 the top of a file"
    for node in [inner for one in body for inner in ast.walk(one)]:
        fault = fault_of_node(node)
        if fault:
            yield getattr(node, "lineno", 0), fault


def with_parents(tree):
    return {inner: node for node in ast.walk(tree) for inner in ast.iter_child_nodes(node)}


def called_name(node):
    return node.func.id if isinstance(node, ast.Call) and isinstance(node.func, ast.Name) else None


def is_asked_on_the_spot(node, parents):
    """Whether a set is asked with `in` or compared, sorted or counted right where it is made."""
    above = parents[node]
    while isinstance(above, ast.BinOp) and isinstance(above.op, (ast.Sub, ast.BitAnd, ast.BitOr, ast.BitXor)):
        node, above = above, parents[above]
    if called_name(above) in ("sorted", "len"):
        return not above.keywords
    if isinstance(above, ast.Compare):
        return all(isinstance(op, (ast.In, ast.NotIn, ast.Eq, ast.NotEq)) for op in above.ops)
    return False


def is_walked_on_the_spot(node, parents):
    above = parents[node]
    if isinstance(above, (ast.For, ast.comprehension)):
        return above.iter is node
    if isinstance(above, ast.Call) and isinstance(above.func, ast.Attribute):
        return above.func.attr == "join"
    walkers = "list tuple dict sorted sum any all enumerate zip min max".split()
    return called_name(above) in walkers and (above.args[0] is node or called_name(above) == "zip")


def faults_of_walks(tree):
    parents = with_parents(tree)
    for node in ast.walk(tree):
        if isinstance(node, ast.Set) or called_name(node) in ("set", "frozenset"):
            if not is_asked_on_the_spot(node, parents):
                yield node.lineno, "L24 a set that is kept or walked"
        views = isinstance(node, ast.Call) and getattr(node.func, "attr", None) in ("items", "keys", "values")
        if views or called_name(node) in ("zip", "enumerate", "reversed", "range"):
            if not is_walked_on_the_spot(node, parents):
                yield node.lineno, "L23 not walked on the spot"


def methods_and_values(tree):
    """The names of all methods, and of all values that objects are given."""
    methods, values = set(), set()
    for node in ast.walk(tree):
        if isinstance(node, ast.ClassDef):
            methods |= {inner.name for inner in node.body if isinstance(inner, ast.FunctionDef)}
        elif isinstance(node, ast.Attribute) and isinstance(node.ctx, ast.Store):
            values.add(node.attr)
    return methods, values


class Language(unittest.TestCase):
    def setUp(self):
        self.texts = {"slitview." + path.stem: path.read_text("utf-8") for path in files() if path.suffix == ".py"}
        self.trees = {module: ast.parse(text) for module, text in self.texts.items()}
        self.defined = {module: defined_at_top(tree) for module, tree in self.trees.items()}

    def test_files(self):
        self.assertIn("__init__.py", [path.name for path in files()])
        for path in files():
            self.assertRegex(path.name, r"^([a-z][a-z0-9_]*|__init__|__main__)\.py$")
            self.assertNotIn(path.stem, BARRED_FILES)
            self.assertFalse(path.stem.startswith("test_"))

    def test_every_file(self):
        classes = [node for tree in self.trees.values() for node in ast.walk(tree) if isinstance(node, ast.ClassDef)]
        methods = {inner.name for node in classes for inner in node.body if isinstance(inner, ast.FunctionDef)}
        for module, tree in self.trees.items():
            faults = list(faults_of_text(self.texts[module]))
            faults += faults_of_top(tree, self.defined)
            faults += faults_of_names(tree, methods)
            faults += faults_of_walks(tree)
            self.assertEqual(faults, [], module)

    def test_methods_and_values_of_objects(self):
        methods, values = set(), set()
        for tree in self.trees.values():
            methods_here, values_here = methods_and_values(tree)
            methods |= methods_here
            values |= values_here
        self.assertEqual(methods & values, set(), "L18 a method in one class and a value in another")
        self.assertEqual((methods - DUNDERS - METHODS - {"add", "discard"}) & NAMES_OF_PYTHONS_VALUES, set(), "L26 methods")
        self.assertEqual((values - FREE_VALUES) & NAMES_OF_PYTHONS_VALUES, set(), "L26 values")
        self.assertEqual(values & WORDS, set(), "L17 values")

    def test_no_file_draws_from_itself(self):
        draws = {}
        for module, tree in self.trees.items():
            draws[module] = {node.module for node in tree.body if isinstance(node, ast.ImportFrom)}
        while draws:
            free = [module for module in draws if not draws[module] & set(draws)]
            self.assertTrue(free, "files that draw from one another: " + repr(sorted(draws)))
            for module in free:
                del draws[module]

    def test_faults_are_found(self):
        for text in ("def f(*a):\n    return a\n", "x = 1.5\n", "def f():\n    return {a for a in 'a'}\n", "import os\n",
                     "def f(min):\n    return min\n", "def f(a):\n    return a.encode()\n", "a = b = 1\n", "print(1)\n",
                     "def f(a):\n    with a:\n        pass\n", "def f(a):\n    return a is a\n", "a = 1  # type\n",
                     "def _f():\n    pass\n", "def f(a):\n    return 2 ** a\n", "class A:\n    a = 1\n", "a = '\t'\n",
                     "from slitview.errors import Missing\n", "def f():\n    return eval('1')\n",
                     "def f(a):\n    b = set(a)\n    return b\n", "def f(a):\n    return [b for b in set(a)]\n",
                     "def f(a):\n    b = a.items()\n    return b\n", "def f(a):\n    return range(a)\n"):
            tree = ast.parse(text)
            faults = list(faults_of_text(text)) + list(faults_of_top(tree, self.defined))
            if not faults:
                faults = list(faults_of_names(tree, set())) + list(faults_of_walks(tree))
            self.assertNotEqual(faults, [], text)


if __name__ == "__main__":
    unittest.main()
