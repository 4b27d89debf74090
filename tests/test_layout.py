"""Where the package lies, and some of the rules of the language: files, signs, sizes, imports, names, statements, methods."""

import ast
import builtins
import re
import unittest
from pathlib import Path

TOP = Path(__file__).resolve().parent.parent
PACKAGE = TOP / "cutrow"

PYTHON_NAMES = set(
    "len range enumerate zip min max sum abs sorted reversed int str bool list tuple dict set frozenset isinstance"
    " ord repr any all divmod Exception ValueError TypeError KeyError IndexError LookupError ZeroDivisionError"
    " ArithmeticError OverflowError RuntimeError NotImplementedError AttributeError StopIteration object".split()
)
NEVER_NAMES = set(
    "register mro elements open input version_info with_traceback add_note attrgetter breakpoint builtins compile"
    " copyright credits delattr dir eval exec exit gc getattr globals hasattr help id importlib license locals"
    " methodcaller os quit setattr super type vars sys".split()
)
NEVER_WORDS = re.compile(
    r"\b(type|typing|typing_extensions|enum|Enum|IntEnum|StrEnum|Flag|IntFlag|Generic|Protocol|ABC|ABCMeta|namedtuple"
    r"|NamedTuple|TypedDict|TYPE_CHECKING|abstractmethod)\b|dataclass|overload|contextmanager"
)
OWN_METHODS = set(
    "append clear copy count endswith extend find get index insert isalnum isalpha isdigit islower isspace isupper items"
    " join keys ljust lower lstrip partition pop remove replace reverse rfind rjust rpartition rsplit rstrip setdefault"
    " split splitlines startswith strip update upper values zfill bit_length".split()
)
METHODS = set("__init__ __eq__ __repr__ __str__ __len__".split())
NODES = tuple(
    getattr(ast, name)
    for name in (
        "Module FunctionDef ClassDef Return Assign AugAssign For While If Raise Try ImportFrom Expr Pass Break Continue"
        " BoolOp BinOp UnaryOp Lambda IfExp Dict Set ListComp Compare Call FormattedValue JoinedStr Constant Attribute"
        " Subscript Name List Tuple Slice expr_context boolop operator unaryop cmpop comprehension ExceptHandler"
        " arguments arg keyword alias"
    ).split()
)


def sources():
    return sorted(path for path in PACKAGE.rglob("*.py"))


def sign_faults(text):
    faults = [sign for sign in text if sign != "\n" and not " " <= sign <= "~"]
    faults += NEVER_WORDS.findall(text)
    faults += [line for line in text.split("\n") if len(line) > 120]
    if text.count("\n") > 400:
        faults.append("long file")
    return faults


def bound_names(tree):
    for node in ast.walk(tree):
        if isinstance(node, ast.Name) and isinstance(node.ctx, ast.Store):
            yield node.id
        elif isinstance(node, ast.arg):
            yield node.arg
        elif isinstance(node, (ast.FunctionDef, ast.ClassDef)):
            yield node.name
        elif isinstance(node, ast.ExceptHandler) and node.name:
            yield node.name
        elif isinstance(node, ast.alias):
            yield node.asname or node.name


def used_names(tree):
    for node in ast.walk(tree):
        if isinstance(node, ast.Name):
            yield node.id
        elif isinstance(node, ast.Attribute):
            yield node.attr


def name_faults(tree):
    bound = list(bound_names(tree))
    functions = [node.name for node in ast.walk(tree) if isinstance(node, ast.FunctionDef)]
    for name in bound + list(used_names(tree)):
        if name in NEVER_NAMES or (name.startswith("_") and name not in METHODS):
            yield f"name {name}"
    for name in bound:
        if name not in functions and name in dir(builtins):
            yield f"Python's own name {name} given another meaning"
    for node in ast.walk(tree):
        if isinstance(node, ast.Name) and node.id not in bound and node.id not in PYTHON_NAMES and node.id != "self":
            yield f"unknown name {node.id}"


def import_faults(tree):
    for node in ast.walk(tree):
        if isinstance(node, ast.ImportFrom):
            if node.level or not (node.module or "").startswith("cutrow."):
                yield "import from elsewhere"
            if node not in tree.body:
                yield "import within"
            yield from ["import of all" for alias in node.names if alias.name == "*"]


def function_faults(node):
    if node.decorator_list or node.args.vararg or node.args.kwarg or node.args.kwonlyargs or node.args.posonlyargs:
        yield f"parameters or decorator of {node.name}"
    if node.end_lineno - node.lineno + 1 > 40:
        yield f"long function {node.name}"


def form_faults(tree):
    for node in ast.walk(tree):
        if not isinstance(node, NODES) or isinstance(node, (ast.Div, ast.MatMult)):
            yield f"{type(node).__name__} is not of the language"
        if isinstance(node, ast.Constant) and not isinstance(node.value, (int, str, type(None))):
            yield f"value {node.value!r}"
        if isinstance(node, ast.FunctionDef):
            yield from function_faults(node)
        if isinstance(node, (ast.For, ast.While)) and node.orelse:
            yield "else behind a loop"
        if isinstance(node, ast.Try) and node.finalbody:
            yield "finally"
        if isinstance(node, ast.ClassDef) and (len(node.bases) > 1 or node.decorator_list or node.keywords):
            yield f"bases or decorator of {node.name}"


def method_names(tree):
    classes = [node for node in ast.walk(tree) if isinstance(node, ast.ClassDef)]
    return [node.name for kind in classes for node in kind.body if isinstance(node, ast.FunctionDef)]


def value_names(tree):
    return [node.attr for node in ast.walk(tree) if isinstance(node, ast.Attribute) and isinstance(node.ctx, ast.Store)]


def drawn_from(tree):
    return [node.module for node in ast.walk(tree) if isinstance(node, ast.ImportFrom)]


def value_faults(tree):
    own = OWN_METHODS | set(method_names(tree))
    for node in ast.walk(tree):
        if isinstance(node, ast.Call) and isinstance(node.func, ast.Attribute) and node.func.attr not in own:
            yield f"method {node.func.attr}"
        if isinstance(node, ast.Compare) and any(isinstance(sign, (ast.Is, ast.IsNot)) for sign in node.ops):
            if not isinstance(node.comparators[-1], ast.Constant) or len(node.ops) > 1:
                yield "is beside something else than None, True and False"
        if isinstance(node, ast.Assign) and len(node.targets) > 1:
            yield "several targets"
        if isinstance(node, ast.Constant) and "%" in str(node.value):
            yield "a text with a percent sign"


def top_faults(tree):
    bound = []
    for node in tree.body:
        if isinstance(node, ast.Assign):
            bound += [target.id for target in node.targets]
        elif isinstance(node, (ast.FunctionDef, ast.ClassDef)):
            bound.append(node.name)
        elif isinstance(node, ast.ImportFrom):
            bound += [alias.asname or alias.name for alias in node.names]
        elif not isinstance(node, ast.Expr) or not isinstance(node.value, ast.Constant):
            yield "something done at the top"
    for name in sorted(set(bound)):
        if list(bound_names(tree)).count(name) > 1:
            yield f"{name} is bound twice"


def faults(text):
    tree = ast.parse(text)
    found = sign_faults(text) + list(form_faults(tree)) + list(value_faults(tree)) + list(top_faults(tree))
    return found + list(name_faults(tree)) + list(import_faults(tree))


class Layout(unittest.TestCase):
    def test_the_package_lies_at_the_top(self):
        self.assertTrue((PACKAGE / "__init__.py").is_file())
        for name in ("errors", "rows", "answers", "parts", "texts"):
            self.assertTrue((PACKAGE / (name + ".py")).is_file(), name)

    def test_it_is_the_one_package(self):
        folders = [path.parent.name for path in TOP.glob("*/__init__.py")]
        self.assertEqual(folders, ["cutrow"])

    def test_nothing_else_lies_in_it(self):
        for path in PACKAGE.rglob("*"):
            # Running the program leaves this folder behind; git ignores it.
            if "__pycache__" in path.parts:
                continue
            self.assertTrue(path.is_file(), path)
            self.assertRegex(path.name, r"^(__init__|__main__|[a-z][a-z0-9_]*)\.py$")
            self.assertNotRegex(path.name, r"^(tests?|testing|test_.*|site|conftest|(site|user)customize)\.py$")
            self.assertNotIn(path.stem, dir(builtins))

    def test_tests_lie_beside_it(self):
        self.assertEqual(Path(__file__).resolve().parent.parent, PACKAGE.parent)
        self.assertNotIn(PACKAGE, Path(__file__).resolve().parents)


class Form(unittest.TestCase):
    def test_every_file_keeps_to_the_language(self):
        self.assertTrue(sources())
        for path in sources():
            self.assertEqual(faults(path.read_text(encoding="utf-8")), [], path)

    def test_no_name_is_a_method_and_a_value(self):
        trees = [ast.parse(path.read_text(encoding="utf-8")) for path in sources()]
        methods = {name for tree in trees for name in method_names(tree)}
        values = {name for tree in trees for name in value_names(tree)}
        self.assertEqual(methods & values, set())

    def test_no_two_files_draw_from_one_another(self):
        drawn = {f"cutrow.{path.stem}": drawn_from(ast.parse(path.read_text(encoding="utf-8"))) for path in sources()}
        while drawn:
            free = [name for name, others in drawn.items() if not set(others) & set(drawn)]
            self.assertNotEqual(free, [], drawn)
            drawn = {name: others for name, others in drawn.items() if name not in free}

    def test_what_is_outside_the_language_is_seen(self):
        for text in (
            "import os\n", "from os import path\n", "from .errors import BadRow\n", "from cutrow.errors import *\n",
            "x = 1.5\n", "x = 4 / 2\n", "x = b'1'\n", "x = {n: n for n in [1]}\n", "x = all(n for n in [1])\n",
            "def f(*a):\n    return a\n", "def f():\n    yield 1\n", "def f(x):\n    assert x\n",
            "def f():\n    for n in [1]:\n        pass\n    else:\n        pass\n", "def f(x):\n    del x\n",
            "def f(x):\n    return type(x)\n", "def f(x):\n    return hash(x)\n", "def f(sum):\n    return sum\n",
            "_x = 1\n", "x = [_ for _ in [1]]\n", "def f():\n\treturn 1\n", "x = '\u00e4'\n", "x = 1  # an enum\n",
            "class A(list, dict):\n    pass\n", "x = 1\n" * 401, "x = '" + "a" * 120 + "'\n",
            "def f():\n" + "    pass\n" * 40, "def f(x):\n    x.sort()\n", "def f(x, y):\n    return x is y\n",
            "def f():\n    x = y = 1\n    return x\n", "x = '1%'\n", "x = 1\nx = 2\n", "print(1)\n",
            "def f(x):\n    return x\n\n\ndef g(f):\n    return f\n",
        ):
            self.assertNotEqual(faults(text), [], text)

    def test_what_is_within_the_language_is_let_through(self):
        text = (
            '"""Words."""\n\nfrom cutrow.errors import BadRow\n\nMOST = 3\n\n\n'
            "class A:\n    def __init__(self, x):\n        self.x = x\n\n\n"
            "def f(row, most=MOST):\n    if len(row) > most:\n        raise BadRow(f'{most}')\n"
            "    return sorted([n // 2 for n in row if n], key=lambda n: -n)\n"
        )
        self.assertEqual(faults(text), [])


if __name__ == "__main__":
    unittest.main()
