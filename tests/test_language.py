"""The rules of LANGUAGE.md that can be seen in the text or the tree of a file."""

import ast
import builtins
import re
import unittest
from pathlib import Path

PACKAGE = Path(__file__).resolve().parent.parent / "paritydesk"

BUILTINS = set(
    "len range enumerate zip min max sum abs sorted reversed int str bool list tuple dict set frozenset isinstance"
    " ord repr any all divmod Exception ValueError TypeError KeyError IndexError LookupError ZeroDivisionError"
    " ArithmeticError OverflowError RuntimeError NotImplementedError AttributeError StopIteration".split())
METHODS = set(
    "append clear copy count endswith extend find get index insert isalnum isalpha isdigit islower isspace isupper"
    " items join keys ljust lower lstrip partition pop remove replace reverse rfind rjust rpartition rsplit rstrip"
    " setdefault split splitlines startswith strip update upper values zfill bit_length".split())
DUNDERS = ("__init__", "__eq__", "__repr__", "__str__", "__len__")
NODES = set(
    "Module Expr FunctionDef arguments arg ClassDef Pass Return Assign AugAssign If While For Break Continue Raise"
    " Try ExceptHandler Import ImportFrom alias Name Load Store Constant List Tuple Dict Set Call keyword Attribute"
    " Subscript Slice ListComp comprehension Lambda IfExp BoolOp And Or UnaryOp Not USub Invert BinOp Add Sub Mult"
    " FloorDiv Mod Pow BitAnd BitOr BitXor LShift RShift Compare Eq NotEq Lt LtE Gt GtE Is IsNot In NotIn JoinedStr"
    " FormattedValue".split())
UNUSED_WORDS = (
    r"\b(type|typing|typing_extensions|enum|Enum|IntEnum|StrEnum|Flag|IntFlag|Generic|Protocol|ABC|ABCMeta"
    r"|namedtuple|NamedTuple|TypedDict|TYPE_CHECKING|abstractmethod)\b|dataclass|overload|contextmanager")
UNUSED_NAMES = set("register mro elements open input version_info with_traceback add_note format format_map".split())
OWN_NAMES_OF_PYTHON = {name for name in dir(builtins) if not name.startswith("_")}


def files():
    return sorted(PACKAGE.rglob("*.py"))


def nodes_of(tree, *kinds):
    return [node for node in ast.walk(tree) if isinstance(node, kinds)]


def bound_inside(tree):
    """Parameters and locals of all functions, errors that are taken and inner functions among them."""
    names = []
    for function in nodes_of(tree, ast.FunctionDef, ast.Lambda):
        names += [node.arg for node in nodes_of(function, ast.arg)]
        names += [node.id for node in nodes_of(function, ast.Name) if isinstance(node.ctx, ast.Store)]
        names += [node.name for node in nodes_of(function, ast.ExceptHandler) if node.name is not None]
        names += [node.name for node in nodes_of(function, ast.FunctionDef) if node != function]
    return names


def bound_on_top(tree):
    names = []
    for node in tree.body:
        if isinstance(node, (ast.FunctionDef, ast.ClassDef)):
            names.append(node.name)
        elif isinstance(node, ast.ImportFrom):
            names += [alias.asname or alias.name for alias in node.names]
        elif isinstance(node, ast.Assign):
            names += [target.id for target in node.targets]
    return names


class Language(unittest.TestCase):
    def each(self, check):
        for path in files():
            with self.subTest(path=path.name):
                check(path.read_text(), ast.parse(path.read_text()))

    def test_files_and_signs(self):
        self.assertIn(PACKAGE / "__init__.py", files())
        for path in PACKAGE.rglob("*"):
            if "__pycache__" not in path.parts:
                self.assertRegex(path.name, r"^([a-z][a-z0-9_]*|__init__|__main__)\.py$")
                self.assertNotIn(path.stem, OWN_NAMES_OF_PYTHON)

        def check(text, tree):
            self.assertRegex(text, r"\A[ -~\n]*\Z")
            self.assertIsNone(re.search(UNUSED_WORDS, text))
            self.assertLessEqual(len(text.splitlines()), 400)
            self.assertLessEqual(max(len(row) for row in text.splitlines()), 120)
            for function in nodes_of(tree, ast.FunctionDef):
                self.assertLessEqual(function.end_lineno - function.lineno + 1, 40)

        self.each(check)

    def test_only_known_kinds_of_nodes(self):
        def check(text, tree):
            self.assertEqual({node.__class__.__name__ for node in ast.walk(tree)} - NODES, set())
            for node in nodes_of(tree, ast.Assign):
                self.assertEqual(len(node.targets), 1)
                self.assertNotIsInstance(node.targets[0], (ast.Tuple, ast.List))
            for node in nodes_of(tree, ast.For, ast.While):
                self.assertEqual(node.orelse, [])
            for node in nodes_of(tree, ast.Constant):
                self.assertIsInstance(node.value, (int, str, bool, None.__class__))
            for node in nodes_of(tree, ast.ListComp):
                self.assertEqual(len(node.generators), 1)
                self.assertLessEqual(len(node.generators[0].ifs), 1)
            for node in nodes_of(tree, ast.BinOp):
                if isinstance(node.op, ast.Pow):
                    self.assertIsInstance(node.right, ast.Constant)
            for node in nodes_of(tree, ast.Compare):
                if any(isinstance(op, (ast.Is, ast.IsNot)) for op in node.ops):
                    self.assertIn(node.comparators[0].value, (None, True, False))

        self.each(check)

    def test_functions_and_classes(self):
        def check(text, tree):
            for node in nodes_of(tree, ast.FunctionDef, ast.ClassDef):
                self.assertEqual(node.decorator_list, [])
            for node in nodes_of(tree, ast.arguments):
                self.assertEqual((node.vararg, node.kwarg, node.kwonlyargs, node.posonlyargs), (None, None, [], []))
            for node in nodes_of(tree, ast.ClassDef):
                self.assertIn(node, tree.body)
                self.assertLessEqual(len(node.bases), 1)
                for part in node.body:
                    self.assertIsInstance(part, (ast.FunctionDef, ast.Pass))

        self.each(check)

    def test_the_top_and_imports(self):
        defined = {path.stem: bound_on_top(ast.parse(path.read_text())) for path in files()}

        def check(text, tree):
            names = bound_on_top(tree)
            self.assertEqual(len(names), len(set(names)))
            for node in tree.body[1:]:
                self.assertIsInstance(node, (ast.ImportFrom, ast.Assign, ast.FunctionDef, ast.ClassDef))
            for node in nodes_of(tree, ast.ImportFrom):
                self.assertIn(node, tree.body)
                self.assertRegex(node.module, r"^paritydesk\.[a-z]+$")
                source = ast.parse((PACKAGE / (node.module.split(".")[1] + ".py")).read_text())
                drawn = [name for part in nodes_of(source, ast.ImportFrom) for name in bound_on_top(ast.Module([part]))]
                for alias in node.names:
                    self.assertIn(alias.name, defined[node.module.split(".")[1]])
                    self.assertNotIn(alias.name, drawn)
            self.assertEqual(nodes_of(tree, ast.Import), [])

        self.each(check)

    def test_the_values_of_the_top_are_plain(self):
        def check(text, tree):
            for node in tree.body:
                if isinstance(node, ast.Assign):
                    self.assertEqual(nodes_of(node.value, ast.BinOp, ast.Call, ast.ListComp, ast.JoinedStr), [])

        self.each(check)

    def test_no_two_files_draw_from_one_another(self):
        drawn = {}
        for path in files():
            rows = nodes_of(ast.parse(path.read_text()), ast.ImportFrom)
            drawn[path.stem] = {row.module.split(".")[1] for row in rows}
        settled = set()
        for _ in range(len(drawn)):
            settled |= {name for name in drawn if drawn[name] <= settled}
        self.assertEqual(settled, set(drawn))

    def test_names(self):
        def check(text, tree):
            top = bound_on_top(tree)
            inside = bound_inside(tree)
            for name in inside:
                self.assertNotIn(name, OWN_NAMES_OF_PYTHON)
                self.assertNotIn(name, top)
                self.assertFalse(name.startswith("_"))
            for node in nodes_of(tree, ast.Name):
                self.assertNotIn(node.id, UNUSED_NAMES)
                self.assertRegex(node.id, r"^[A-Za-z][A-Za-z0-9_]*$")
                self.assertIn(node.id, BUILTINS.union(top, inside))
            for node in nodes_of(tree, ast.FunctionDef):
                self.assertTrue(node.name in DUNDERS or not node.name.startswith("_"))
            for node in nodes_of(tree, ast.Attribute):
                self.assertNotIn(node.attr, UNUSED_NAMES)
                self.assertTrue(node.attr in DUNDERS or not node.attr.startswith("_"))

        self.each(check)

    def test_methods(self):
        own = [node.name for path in files() for node in nodes_of(ast.parse(path.read_text()), ast.FunctionDef)]

        def check(text, tree):
            for node in nodes_of(tree, ast.Call):
                if isinstance(node.func, ast.Attribute):
                    self.assertIn(node.func.attr, METHODS.union(own))

        self.each(check)


if __name__ == "__main__":
    unittest.main()
