"""The package keeps to those rules of LANGUAGE.md that can be seen without running it."""

import ast
import pathlib
import re
import unittest

PACKAGE = pathlib.Path(__file__).resolve().parent.parent / "alwaysmeet"

BUILTINS = set(
    "len range enumerate zip min max sum abs sorted reversed int str bool bytes list tuple dict set frozenset "
    "isinstance ord repr any all divmod Exception ValueError TypeError KeyError IndexError LookupError "
    "ZeroDivisionError ArithmeticError OverflowError RuntimeError NotImplementedError AttributeError "
    "StopIteration".split()
)
ALL_BUILTINS = set(dir(__builtins__) if not isinstance(__builtins__, dict) else __builtins__)
BARRED_NODES = (
    ast.With, ast.Match, ast.Global, ast.Nonlocal, ast.Yield, ast.YieldFrom, ast.AsyncFunctionDef,
    ast.AsyncFor, ast.AsyncWith, ast.Await, ast.GeneratorExp, ast.NamedExpr, ast.Div, ast.Import,
)
METHODS = ("__init__", "__eq__", "__repr__", "__str__", "__len__")
BARRED_NAMES = set(
    "register mro elements open input version_info with_traceback add_note format format_map".split()
)
BARRED_WORDS = set(
    "type typing typing_extensions enum Enum IntEnum StrEnum Flag IntFlag Generic Protocol ABC ABCMeta "
    "namedtuple NamedTuple TypedDict TYPE_CHECKING abstractmethod".split()
)


def files():
    return sorted(PACKAGE.rglob("*.py"))


def nodes(path):
    return list(ast.walk(ast.parse(path.read_text())))


def all_nodes():
    return [(path.name, node) for path in files() for node in nodes(path)]


def names_bound(node):
    if isinstance(node, (ast.FunctionDef, ast.ClassDef)):
        return [node.name]
    if isinstance(node, ast.arg):
        return [node.arg]
    if isinstance(node, ast.Name) and isinstance(node.ctx, ast.Store):
        return [node.id]
    if isinstance(node, ast.alias):
        return [node.asname or node.name]
    return []


class Files(unittest.TestCase):
    def test_there_are_some(self):
        self.assertIn("__init__.py", [path.name for path in files()])

    def test_nothing_but_python_files_with_plain_names(self):  # L1, L14
        for path in PACKAGE.rglob("*"):
            if "__pycache__" not in path.parts:
                self.assertRegex(path.name, r"\A[a-z_][a-z0-9_]*\.py\Z")

    def test_sizes(self):  # L10
        for path in files():
            lines = path.read_text().split("\n")
            self.assertLessEqual(len(lines), 400, path.name)
            self.assertLessEqual(max(len(line) for line in lines), 120, path.name)
        for name, node in all_nodes():
            if isinstance(node, ast.FunctionDef):
                self.assertLessEqual(node.end_lineno - node.lineno + 1, 40, (name, node.name))

    def test_signs_and_words(self):  # L14, L17
        for path in files():
            text = path.read_text()
            self.assertRegex(text, r"\A[ -~\n]*\Z", path.name)
            self.assertEqual(BARRED_WORDS & set(re.findall(r"\w+", text)), set(), path.name)
            self.assertNotRegex(text, "dataclass|overload|contextmanager", path.name)


class Code(unittest.TestCase):
    def test_no_barred_statement_or_expression(self):  # L6, L7
        for name, node in all_nodes():
            self.assertNotIsInstance(node, BARRED_NODES, (name, getattr(node, "lineno", 0)))
            if isinstance(node, (ast.For, ast.While)):
                self.assertEqual(node.orelse, [], (name, node.lineno))
            if isinstance(node, ast.Constant):
                self.assertNotIsInstance(node.value, (float, complex), (name, node.lineno))
                self.assertFalse(isinstance(node.value, str) and "%" in node.value, (name, node.lineno))

    def test_imports(self):  # L2, L16
        for name, node in all_nodes():
            if isinstance(node, ast.ImportFrom):
                self.assertEqual(node.level, 0, name)
                self.assertTrue(node.module.startswith("alwaysmeet."), (name, node.module))
                self.assertNotIn("*", [alias.name for alias in node.names], name)

    def test_functions_and_classes(self):  # L4, L5
        for name, node in all_nodes():
            if isinstance(node, (ast.FunctionDef, ast.ClassDef)):
                self.assertEqual(node.decorator_list, [], (name, node.name))
            if isinstance(node, ast.arguments):
                self.assertEqual((node.vararg, node.kwarg, node.posonlyargs), (None, None, []), name)
            if isinstance(node, ast.ClassDef):
                self.assertLessEqual(len(node.bases), 1, (name, node.name))
                for part in node.body:
                    self.assertIsInstance(part, (ast.FunctionDef, ast.Expr), (name, node.name))

    def test_names(self):  # L8, L12, L15, L17
        for name, node in all_nodes():
            for bound in names_bound(node):
                self.assertNotIn(bound, BARRED_NAMES, name)
                if bound not in METHODS:
                    self.assertFalse(bound.startswith("_"), (name, bound))
                    self.assertNotIn(bound, ALL_BUILTINS, name)
            if isinstance(node, ast.Name) and node.id in ALL_BUILTINS:
                self.assertIn(node.id, BUILTINS, (name, node.lineno))

    def test_no_name_is_a_method_and_an_attribute(self):  # L18
        methods, fields = set(), set()
        for name, node in all_nodes():
            if isinstance(node, ast.ClassDef):
                methods.update(part.name for part in node.body if isinstance(part, ast.FunctionDef))
            if isinstance(node, ast.Attribute) and isinstance(node.ctx, ast.Store):
                fields.add(node.attr)
        self.assertEqual(methods & fields, set())

    def test_no_power_but_of_a_literal(self):  # L27
        for name, node in all_nodes():
            if isinstance(node, ast.BinOp) and isinstance(node.op, ast.Pow):
                self.assertIsInstance(node.right, ast.Constant, (name, node.lineno))

    def test_is_stands_with_none_and_truths_alone(self):  # L20
        for name, node in all_nodes():
            if isinstance(node, ast.Compare):
                for sign, right in zip(node.ops, node.comparators):
                    if isinstance(sign, (ast.Is, ast.IsNot)):
                        self.assertIsInstance(right, ast.Constant, (name, node.lineno))
                        self.assertIn(right.value, (None, True, False), (name, node.lineno))


if __name__ == "__main__":
    unittest.main()
