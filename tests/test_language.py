"""The form of the package's files: what of the language's rules L1 to L28 can be seen without running them."""

import ast
import builtins
import pathlib
import re
import unittest

PACKAGE = pathlib.Path(__file__).resolve().parent.parent / "pagefolk"

OWN = set("""len range enumerate zip min max sum abs sorted reversed int str bool list tuple dict set frozenset isinstance
ord repr any all divmod Exception ValueError TypeError KeyError IndexError LookupError ZeroDivisionError
ArithmeticError OverflowError RuntimeError NotImplementedError AttributeError StopIteration""".split())
METHODS = set("""append clear copy count endswith extend find get index insert isalnum isalpha isdigit islower isspace
isupper items join keys ljust lower lstrip partition pop remove replace reverse rfind rjust rpartition rsplit rstrip
setdefault split splitlines startswith strip update upper values zfill bit_length""".split())
SPECIAL = {"__init__", "__eq__", "__repr__", "__str__", "__len__"}
UNUSED = set("""register mro elements open input version_info with_traceback add_note format format_map attrgetter
breakpoint builtins compile copyright credits delattr dir eval exec exit gc getattr globals hasattr help id importlib
license locals methodcaller os quit setattr super type vars sys chr print""".split())
UNSPOKEN = re.compile(r"\b(type|typing|typing_extensions|enum|Enum|IntEnum|StrEnum|Flag|IntFlag|Generic|Protocol|ABC"
                      r"|ABCMeta|namedtuple|NamedTuple|TypedDict|TYPE_CHECKING|abstractmethod)\b"
                      r"|dataclass|overload|contextmanager")
NODES = set("""Module FunctionDef ClassDef arguments arg ImportFrom alias Expr Assign AugAssign If While For Return Break
Continue Pass Raise Try ExceptHandler Constant Name Load Store Attribute Subscript Slice List Tuple Dict Set BinOp
UnaryOp BoolOp Compare IfExp Call keyword ListComp comprehension JoinedStr FormattedValue Lambda And Or Not Invert USub
UAdd Add Sub Mult FloorDiv Mod Pow BitAnd BitOr BitXor LShift RShift Eq NotEq Lt LtE Gt GtE Is IsNot In
NotIn""".split())
PYTHONS_VALUES = (str, int, list, tuple, dict, set, bytes)


def is_plain_value(node):
    if isinstance(node, (ast.List, ast.Tuple)):
        return all(is_plain_value(one) for one in node.elts)
    if isinstance(node, ast.Dict):
        return all(is_plain_value(one) for one in node.keys + node.values)
    return isinstance(node, (ast.Constant, ast.Name))


def is_docstring(node):
    return isinstance(node, ast.Expr) and isinstance(node.value, ast.Constant) and isinstance(node.value.value, str)


def faults_of_text(text):
    rows = text.split("\n")
    if len(rows) - 1 > 400:
        yield 400, "L10 a long file"
    for at, row in enumerate(rows, start=1):
        if len(row) > 120:
            yield at, "L10 a long line"
        if not all(" " <= sign <= "~" for sign in row):
            yield at, "L14 a sign"
        if UNSPOKEN.search(row):
            yield at, "L17 a word"


def faults_of_top(tree):
    for node in tree.body:
        if isinstance(node, ast.Assign):
            if len(node.targets) != 1 or not isinstance(node.targets[0], ast.Name) or not is_plain_value(node.value):
                yield node.lineno, "L3 the top of a file"
        elif not isinstance(node, (ast.ImportFrom, ast.FunctionDef, ast.ClassDef)) and node is not tree.body[0]:
            yield node.lineno, "L3 the top of a file"
    for node in ast.walk(tree):
        if isinstance(node, ast.ImportFrom):
            names = [alias.name for alias in node.names]
            if node not in tree.body or node.level or not node.module.startswith("pagefolk.") or "*" in names:
                yield node.lineno, "L2 an import"


def faults_of_def(node):
    if isinstance(node, ast.FunctionDef):
        if node.decorator_list or node.args.vararg or node.args.kwarg or node.args.kwonlyargs or node.args.posonlyargs:
            yield node.lineno, "L4 a def"
        if node.end_lineno - node.lineno >= 40:
            yield node.lineno, "L10 a long def"
    if isinstance(node, ast.ClassDef):
        inner = [one for one in node.body if not is_docstring(one) and not isinstance(one, ast.FunctionDef)]
        if inner or node.decorator_list or len(node.bases) > 1 or node.keywords:
            yield node.lineno, "L5 a class"


def names_in(node):
    if isinstance(node, (ast.FunctionDef, ast.ClassDef, ast.alias)):
        return [node.name]
    if isinstance(node, ast.Name):
        return [node.id]
    if isinstance(node, ast.arg):
        return [node.arg]
    return [node.attr] if isinstance(node, ast.Attribute) else []


def faults_of_names(node):
    for name in names_in(node):
        at = getattr(node, "lineno", 0)
        if name.startswith("_") and name not in SPECIAL:
            yield at, "L12 a name"
        if name in UNUSED:
            yield at, "L17 a name"
        bound = not isinstance(node, (ast.Name, ast.Attribute)) or isinstance(node.ctx, ast.Store)
        of_python = name in vars(builtins) and not isinstance(node, (ast.Attribute, ast.FunctionDef))
        if of_python and (bound or name not in OWN):
            yield at, "L8 a name of Python's own"
    if isinstance(node, ast.Attribute) and isinstance(node.ctx, ast.Load):
        if node.attr not in METHODS | SPECIAL and any(hasattr(kind, node.attr) for kind in PYTHONS_VALUES):
            yield node.lineno, "L25 a method"


def faults_of_values(node):
    if type(node).__name__ not in NODES:
        yield getattr(node, "lineno", 0), "L6, L7 " + type(node).__name__
    if isinstance(node, ast.Constant) and isinstance(node.value, (float, bytes, complex)):
        yield node.lineno, "L7 a value"
    if isinstance(node, ast.Constant) and isinstance(node.value, str) and "%" in node.value:
        yield node.lineno, "L27 a text"
    if isinstance(node, ast.Assign) and (len(node.targets) != 1 or isinstance(node.targets[0], ast.Tuple)):
        yield node.lineno, "L6 an assignment"
    if isinstance(node, (ast.For, ast.While)) and node.orelse:
        yield node.lineno, "L6 a loop"
    if isinstance(node, ast.ListComp) and (len(node.generators) > 1 or len(node.generators[0].ifs) > 1):
        yield node.lineno, "L7 a comprehension"
    if isinstance(node, ast.Compare):
        for word, other in zip(node.ops, node.comparators):
            plain = isinstance(other, ast.Constant) and other.value in (None, True, False)
            if isinstance(word, (ast.Is, ast.IsNot)) and not plain:
                yield node.lineno, "L20 is"


def faults_of_sets(tree):
    beside = []
    for node in ast.walk(tree):
        if isinstance(node, ast.Compare):
            beside.extend([node.left] + node.comparators)
        if isinstance(node, ast.Call) and isinstance(node.func, ast.Name) and node.func.id in ("len", "sorted"):
            beside.extend(node.args)
        if isinstance(node, ast.BinOp) and node in beside:
            beside.extend([node.left, node.right])
    for node in ast.walk(tree):
        made = isinstance(node, ast.Call) and isinstance(node.func, ast.Name) and node.func.id in ("set", "frozenset")
        if (made or isinstance(node, ast.Set)) and node not in beside:
            yield node.lineno, "L24 a set"


def bound_at_top(tree):
    """The names that a file defines, and those that it draws from others."""
    defined, drawn = [], []
    for node in tree.body:
        if isinstance(node, (ast.FunctionDef, ast.ClassDef)):
            defined.append(node.name)
        elif isinstance(node, ast.Assign):
            defined.append(node.targets[0].id)
        elif isinstance(node, ast.ImportFrom):
            drawn.extend([alias.asname or alias.name for alias in node.names])
    return defined, drawn


def faults_of_bound(tree):
    defined, drawn = bound_at_top(tree)
    for name in set(defined + drawn):
        if (defined + drawn).count(name) > 1:
            yield 0, "L15 bound twice: " + name
    classes = [node.name for node in tree.body if isinstance(node, ast.ClassDef)]
    used = [node.id for node in ast.walk(tree) if isinstance(node, ast.Name) and isinstance(node.ctx, ast.Load)]
    for name in drawn:
        if name not in used:
            yield 0, "an import that is not used: " + name
    for node in ast.walk(tree):
        local = isinstance(node, ast.Name) and isinstance(node.ctx, ast.Store) and node.id
        if (local or isinstance(node, ast.arg) and node.arg) in drawn + classes:
            yield node.lineno, "L15 a local or parameter like an import or a class"


def is_walked(call):
    if isinstance(call.func, ast.Name):
        return call.func.id in ("zip", "enumerate", "reversed", "range")
    return isinstance(call.func, ast.Attribute) and call.func.attr in ("items", "keys", "values")


def faults_of_walks(tree):
    """L23, and L22's keywords."""
    walked = []
    for node in ast.walk(tree):
        if isinstance(node, (ast.For, ast.comprehension)):
            walked.append(node.iter)
        if isinstance(node, ast.Call) and isinstance(node.func, ast.Name):
            if node.func.id in ("list", "tuple", "dict", "sorted", "sum", "any", "all", "enumerate", "zip", "min", "max"):
                walked.extend(node.args)
    for node in ast.walk(tree):
        if isinstance(node, ast.Call) and is_walked(node) and node not in walked:
            yield node.lineno, "L23 not walked at once"
        if isinstance(node, ast.Call) and isinstance(node.func, ast.Name) and node.func.id in OWN:
            allowed = {"sorted": ("key", "reverse"), "min": ("key", "default"), "max": ("key", "default"),
                       "sum": ("start",), "enumerate": ("start",), "zip": ("strict",)}.get(node.func.id, ())
            if any(keyword.arg not in allowed for keyword in node.keywords):
                yield node.lineno, "L22 a keyword"


CHANGES = ("append", "clear", "extend", "insert", "pop", "remove", "reverse", "setdefault", "update")


def faults_of_changes(tree):
    """L15 what a file's top keeps is not changed; L23 what a loop walks is not changed in it."""
    tops = [node.targets[0].id for node in tree.body if isinstance(node, ast.Assign)]
    for loop in ast.walk(tree):
        if not isinstance(loop, (ast.For, ast.Module)):
            continue
        held = tops if isinstance(loop, ast.Module) else [ast.dump(loop.iter)]
        for node in ast.walk(loop):
            changed = None
            if isinstance(node, ast.Call) and isinstance(node.func, ast.Attribute) and node.func.attr in CHANGES:
                changed = node.func.value
            if isinstance(node, ast.Subscript) and isinstance(node.ctx, ast.Store):
                changed = node.value
            if changed is not None and (ast.dump(changed) in held or isinstance(changed, ast.Name) and changed.id in held):
                yield node.lineno, "L15, L23 changed"


def is_read_only(parents, node):
    """Whether a list or dict of the file's top is read where it stands, or copied."""
    above = parents[node]
    if isinstance(above, ast.Call) and isinstance(above.func, ast.Name):
        return above.func.id in ("list", "dict", "len", "sorted", "tuple", "sum", "min", "max", "any", "all")
    if isinstance(above, ast.Attribute):
        return above.attr in ("get", "items", "keys", "values", "index", "count", "copy")
    return (isinstance(above, ast.Subscript) and above.value is node or isinstance(above, ast.Compare)
            or isinstance(above, (ast.For, ast.comprehension)) and above.iter is node)


def faults_of_tops(tree):
    """L15: a list or dict of a file's top is only read."""
    kept = [node.targets[0].id for node in tree.body
            if isinstance(node, ast.Assign) and isinstance(node.value, (ast.List, ast.Dict))]
    parents = dict([(child, node) for node in ast.walk(tree) for child in ast.iter_child_nodes(node)])
    for node in ast.walk(tree):
        if isinstance(node, ast.Name) and node.id in kept and isinstance(node.ctx, ast.Load):
            if not is_read_only(parents, node):
                yield node.lineno, "L15 handed on"


def faults_of_errors(tree):
    """L19: what is taken and how errors are made."""
    for node in ast.walk(tree):
        if isinstance(node, ast.ExceptHandler):
            if not isinstance(node.type, ast.Name) or node.type.id in ("Exception", "TypeError", "ValueError", "IndexError",
                                                                       "LookupError", "ArithmeticError"):
                yield node.lineno, "L19 an error taken"
        if isinstance(node, ast.Raise) and not isinstance(node.exc, ast.Call):
            yield node.lineno, "L19 an error raised"


def draws(trees):
    """A dict from the files to those that each draws from; trees is a dict from the files to their trees."""
    drawn = {}
    for file, tree in trees.items():
        drawn[file] = [node.module.split(".")[1] for node in tree.body if isinstance(node, ast.ImportFrom)]
    return drawn


def comes_round(drawn, file, way=()):
    return file in way or any(comes_round(drawn, other, way + (file,)) for other in drawn[file])


def faults_of(text):
    tree = ast.parse(text)
    faults = list(faults_of_text(text))
    for look in (faults_of_top, faults_of_sets, faults_of_bound, faults_of_walks, faults_of_changes, faults_of_errors,
                 faults_of_tops):
        faults.extend(list(look(tree)))
    for node in ast.walk(tree):
        faults.extend(list(faults_of_def(node)) + list(faults_of_names(node)) + list(faults_of_values(node)))
    return faults


def methods_and_values(trees):
    methods, values = set(), set()
    for tree in trees:
        for node in ast.walk(tree):
            if isinstance(node, ast.ClassDef):
                methods.update([one.name for one in node.body if isinstance(one, ast.FunctionDef)])
            if isinstance(node, ast.Attribute) and isinstance(node.ctx, ast.Store):
                values.add(node.attr)
    return methods, values


class Language(unittest.TestCase):
    def files(self):
        return sorted(path for path in PACKAGE.rglob("*") if path.is_file() and "__pycache__" not in path.parts)

    def test_the_files_keep_to_the_rules(self):
        self.assertTrue((PACKAGE / "__init__.py").is_file())
        for path in self.files():
            self.assertRegex(path.name, r"^([a-z][a-z0-9_]*|__init__|__main__)\.py$")
            self.assertEqual(faults_of(path.read_text(encoding="utf-8")), [], path.name)

    def test_no_name_is_a_method_and_a_value(self):
        methods, values = methods_and_values([ast.parse(path.read_text(encoding="utf-8")) for path in self.files()])
        self.assertEqual(methods & values, set())

    def test_names_are_drawn_from_the_files_that_define_them(self):
        trees = dict([(path.stem, ast.parse(path.read_text(encoding="utf-8"))) for path in self.files()])
        drawn = draws(trees)
        for file, tree in trees.items():
            self.assertFalse(comes_round(drawn, file), file)
            for node in tree.body:
                if isinstance(node, ast.ImportFrom):
                    for alias in node.names:
                        self.assertIn(alias.name, bound_at_top(trees[node.module.split(".")[1]])[0], file)

    def test_the_rules_are_looked_at(self):
        for text in ("import os\n", "from pagefolk import sets\n", "from .sets import Folk\n", "x = 1 + 1\n", "x = 0.5\n",
                     "def f(*a):\n    return a\n", "def f(x):\n    return x / 2\n", "def f(x):\n    del x\n",
                     "class A:\n    x = 1\n", "def f(x):\n    return {y for y in x}\n", "def f(x):\n    return set(x)\n",
                     "def f(x):\n    x.sort()\n", "def f(x):\n    a, b = x\n", "def f(x):\n    return x is f\n",
                     "def f(x):\n    return map(f, x)\n", "def f(id):\n    return id\n", "# a type\n", "x = '\u00e4'\n",
                     "from pagefolk.sets import Folk\n", "def f(x):\n    return x\ndef f(x):\n    return x\n",
                     "from pagefolk.sets import Folk\ndef f(Folk):\n    return Folk\n", "class A:\n    pass\ndef f(A):\n    f()\n",
                     "def f(x):\n    y = zip(x, x)\n", "def f(x):\n    y = x.items()\n", "def f(x):\n    return int(x, base=2)\n",
                     "X = []\ndef f(x):\n    X.append(x)\n", "def f(x):\n    for y in x:\n        x.append(y)\n",
                     "X = {}\ndef f(x):\n    X[x] = x\n",
                     "X = []\ndef f(x):\n    return X\n", "X = {}\ndef f(x):\n    f(X)\n", "def f(x):\n    raise x\n",
                     "def f(x):\n    try:\n        f(x)\n    except ValueError:\n        pass\n",
                     "def f(x):\n    return x._y\n", "x = 1\t\n", "def f():\n" + "    f()\n" * 40, "#" * 121 + "\n"):
            self.assertNotEqual(faults_of(text), [], text)


if __name__ == "__main__":
    unittest.main()
