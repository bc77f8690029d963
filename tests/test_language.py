"""The package keeps to those rules of LANGUAGE.md that can be seen without running it."""

import ast
import functools
import pathlib
import re
import unittest

PACKAGE = pathlib.Path(__file__).resolve().parent.parent / "alwaysmeet"

BUILTINS = set(
    "len range enumerate zip min max sum abs sorted reversed int str bool bytes list tuple dict set frozenset "
    "isinstance ord repr any all divmod Exception ValueError TypeError KeyError IndexError LookupError "
    "ZeroDivisionError ArithmeticError OverflowError RuntimeError NotImplementedError AttributeError "
    "StopIteration".split()
)
ALL_BUILTINS = set(dir(__builtins__) if not isinstance(__builtins__, dict) else __builtins__)
BARRED_NODES = (
    ast.With, ast.Match, ast.Global, ast.Nonlocal, ast.Yield, ast.YieldFrom, ast.AsyncFunctionDef,
    ast.AsyncFor, ast.AsyncWith, ast.Await, ast.GeneratorExp, ast.NamedExpr, ast.Div, ast.Import,
)
METHODS = ("__init__", "__eq__", "__repr__", "__str__", "__len__")
BARRED_NAMES = set(
    "register mro elements open input version_info with_traceback add_note format format_map".split()
)
BARRED_WORDS = set(
    "type typing typing_extensions enum Enum IntEnum StrEnum Flag IntFlag Generic Protocol ABC ABCMeta "
    "namedtuple NamedTuple TypedDict TYPE_CHECKING abstractmethod".split()
)
METHODS_OF_VALUES = set(
    "append clear copy count endswith extend find get index insert isalnum isalpha isdigit islower isspace isupper "
    "items join keys ljust lower lstrip partition pop remove replace reverse rfind rjust rpartition rsplit rstrip "
    "setdefault split splitlines startswith strip update upper values zfill bit_length __init__".split()
)


def files():
    return sorted(PACKAGE.rglob("*.py"))


@functools.lru_cache(maxsize=None)
def nodes(path):
    return list(ast.walk(ast.parse(path.read_text())))


@functools.lru_cache(maxsize=None)
def all_nodes():
    return [(path.name, node) for path in files() for node in nodes(path)]


def names_bound(node):
    if isinstance(node, (ast.FunctionDef, ast.ClassDef)):
        return [node.name]
    if isinstance(node, ast.arg):
        return [node.arg]
    if isinstance(node, ast.Name) and isinstance(node.ctx, ast.Store):
        return [node.id]
    if isinstance(node, ast.alias):
        return [node.asname or node.name]
    return []


class Files(unittest.TestCase):
    def test_there_are_some(self):
        self.assertIn("__init__.py", [path.name for path in files()])

    def test_nothing_but_python_files_with_plain_names(self):  # L1, L14
        for path in PACKAGE.rglob("*"):
            if "__pycache__" not in path.parts:
                self.assertRegex(path.name, r"\A[a-z_][a-z0-9_]*\.py\Z")

    def test_sizes(self):  # L10
        for path in files():
            lines = path.read_text().split("\n")
            self.assertLessEqual(len(lines), 400, path.name)
            self.assertLessEqual(max(len(line) for line in lines), 120, path.name)
        for name, node in all_nodes():
            if isinstance(node, ast.FunctionDef):
                self.assertLessEqual(node.end_lineno - node.lineno + 1, 40, (name, node.name))

    def test_signs_and_words(self):  # L14, L17
        for path in files():
            text = path.read_text()
            self.assertRegex(text, r"\A[ -~\n]*\Z", path.name)
            self.assertEqual(BARRED_WORDS & set(re.findall(r"\w+", text)), set(), path.name)
            self.assertNotRegex(text, "dataclass|overload|contextmanager", path.name)


class Code(unittest.TestCase):
    def test_no_barred_statement_or_expression(self):  # L6, L7
        for name, node in all_nodes():
            self.assertNotIsInstance(node, BARRED_NODES, (name, getattr(node, "lineno", 0)))
            if isinstance(node, (ast.For, ast.While)):
                self.assertEqual(node.orelse, [], (name, node.lineno))
            if isinstance(node, ast.Constant):
                self.assertNotIsInstance(node.value, (float, complex), (name, node.lineno))
                self.assertFalse(isinstance(node.value, str) and "%" in node.value, (name, node.lineno))

    def test_imports(self):  # L2, L16
        for name, node in all_nodes():
            if isinstance(node, ast.ImportFrom):
                self.assertEqual(node.level, 0, name)
                self.assertTrue(node.module.startswith("alwaysmeet."), (name, node.module))
                self.assertNotIn("*", [alias.name for alias in node.names], name)

    def test_functions_and_classes(self):  # L4, L5
        for name, node in all_nodes():
            if isinstance(node, (ast.FunctionDef, ast.ClassDef)):
                self.assertEqual(node.decorator_list, [], (name, node.name))
            if isinstance(node, ast.arguments):
                self.assertEqual((node.vararg, node.kwarg, node.posonlyargs), (None, None, []), name)
            if isinstance(node, ast.ClassDef):
                self.assertLessEqual(len(node.bases), 1, (name, node.name))
                for part in node.body:
                    self.assertIsInstance(part, (ast.FunctionDef, ast.Expr), (name, node.name))

    def test_names(self):  # L8, L12, L15, L17
        for name, node in all_nodes():
            for bound in names_bound(node):
                self.assertNotIn(bound, BARRED_NAMES, name)
                if bound not in METHODS:
                    self.assertFalse(bound.startswith("_"), (name, bound))
                    self.assertNotIn(bound, ALL_BUILTINS, name)
            if isinstance(node, ast.Name) and node.id in ALL_BUILTINS:
                self.assertIn(node.id, BUILTINS, (name, node.lineno))

    def test_no_name_is_a_method_and_an_attribute(self):  # L18
        methods, fields = set(), set()
        for name, node in all_nodes():
            if isinstance(node, ast.ClassDef):
                methods.update(part.name for part in node.body if isinstance(part, ast.FunctionDef))
            if isinstance(node, ast.Attribute) and isinstance(node.ctx, ast.Store):
                fields.add(node.attr)
        self.assertEqual(methods & fields, set())

    def test_no_power_but_of_a_literal(self):  # L27
        for name, node in all_nodes():
            if isinstance(node, ast.BinOp) and isinstance(node.op, ast.Pow):
                self.assertIsInstance(node.right, ast.Constant, (name, node.lineno))

    def test_is_stands_with_none_and_truths_alone(self):  # L20
        for name, node in all_nodes():
            if isinstance(node, ast.Compare):
                for sign, right in zip(node.ops, node.comparators):
                    if isinstance(sign, (ast.Is, ast.IsNot)):
                        self.assertIsInstance(right, ast.Constant, (name, node.lineno))
                        self.assertIn(right.value, (None, True, False), (name, node.lineno))


@functools.lru_cache(maxsize=None)
def parents(path):
    """Each node of a file behind the one that has it within."""
    tree = ast.parse(path.read_text())
    return [(node, part) for node in ast.walk(tree) for part in ast.iter_child_nodes(node)]


def bound_at_top(path):
    """What a file defines itself at module level."""
    told = []
    for node in ast.parse(path.read_text()).body:
        if isinstance(node, (ast.FunctionDef, ast.ClassDef)):
            told.append(node.name)
        if isinstance(node, ast.Assign):
            told.extend(target.id for target in node.targets)
    return told


def imports_of(path):
    return [(node.module.split(".")[-1], alias.name) for node in nodes(path) if isinstance(node, ast.ImportFrom)
            for alias in node.names]


@functools.lru_cache(maxsize=None)
def own_methods():
    return set(part.name for name, node in all_nodes() if isinstance(node, ast.ClassDef)
               for part in node.body if isinstance(part, ast.FunctionDef))


@functools.lru_cache(maxsize=None)
def own_fields():
    return set(node.attr for name, node in all_nodes()
               if isinstance(node, ast.Attribute) and isinstance(node.ctx, ast.Store))


@functools.lru_cache(maxsize=None)
def own_classes():
    return set(node.name for name, node in all_nodes() if isinstance(node, ast.ClassDef))


def called(node):
    """The plain name of what is called, or None."""
    return node.func.id if isinstance(node, ast.Call) and isinstance(node.func, ast.Name) else None


class Whole(unittest.TestCase):
    def test_module_level(self):  # L3, L15
        for path in files():
            bound = bound_at_top(path) + [name for file, name in imports_of(path)]
            self.assertEqual(len(bound), len(set(bound)), path.name)
            for node in ast.parse(path.read_text()).body:
                self.assertIsInstance(
                    node, (ast.Expr, ast.ImportFrom, ast.FunctionDef, ast.ClassDef, ast.Assign), path.name
                )

    def test_imports_name_the_file_that_defines(self):  # L16
        for path in files():
            for file, name in imports_of(path):
                self.assertIn(name, bound_at_top(PACKAGE / f"{file}.py"), (path.name, file))

    def test_no_two_files_import_from_each_other(self):  # L16
        waiting = {path.stem: set(file for file, name in imports_of(path)) for path in files()}
        while waiting:
            free = [name for name in waiting if not waiting[name] & set(waiting)]
            self.assertNotEqual(free, [], sorted(waiting))
            for name in free:
                del waiting[name]

    def test_nothing_imported_lies_idle(self):
        for path in files():
            used = [node.id for node in nodes(path) if isinstance(node, ast.Name)]
            for file, name in imports_of(path):
                self.assertIn(name, used, path.name)

    def test_locals_have_names_of_their_own(self):  # L15
        for path in files():
            taken = set(name for file, name in imports_of(path)) | own_classes()
            for node in nodes(path):
                if isinstance(node, ast.arg) or isinstance(node, ast.Name) and isinstance(node.ctx, ast.Store):
                    self.assertEqual(set(names_bound(node)) & taken, set(), path.name)

    def test_classes_are_no_values(self):  # L18
        for path in files():
            for node, part in parents(path):
                if isinstance(part, ast.Name) and part.id in own_classes():
                    good = isinstance(node, (ast.ClassDef, ast.ExceptHandler)) or called(node) == part.id
                    good = good or called(node) == "isinstance" and node.args[0] != part
                    good = good or isinstance(node, ast.Attribute) and node.attr == "__init__"
                    good = good or isinstance(node, ast.Tuple)
                    self.assertTrue(good, (path.name, part.lineno))

    def test_attributes_are_assigned_somewhere(self):  # L18, L25
        known = own_methods() | own_fields() | METHODS_OF_VALUES
        for name, node in all_nodes():
            if isinstance(node, ast.Attribute):
                self.assertIn(node.attr, known, (name, node.lineno))

    def test_own_names_are_none_of_plain_values(self):  # L26
        taken = set()
        for value in ("", 0, [], {}, set(), b""):
            taken.update(dir(value))
        self.assertEqual((own_methods() - set(METHODS)) & taken, set())
        self.assertEqual(own_fields() & taken, set())

    def test_what_is_caught(self):  # L19
        free = own_classes() | {"KeyError", "ZeroDivisionError", "StopIteration"}
        for name, node in all_nodes():
            if isinstance(node, ast.ExceptHandler):
                kinds = node.type.elts if isinstance(node.type, ast.Tuple) else [node.type]
                self.assertLessEqual(set(kind.id for kind in kinds), free, (name, node.lineno))

    def test_what_is_iterated_at_once(self):  # L23
        takers = ("list", "tuple", "dict", "sorted", "sum", "any", "all", "enumerate", "zip", "min", "max")
        for path in files():
            for node, part in parents(path):
                spot = called(part) in ("zip", "enumerate", "reversed", "range")
                if isinstance(part, ast.Call) and isinstance(part.func, ast.Attribute):
                    spot = spot or part.func.attr in ("items", "keys", "values")
                if spot:
                    good = isinstance(node, (ast.For, ast.comprehension)) and node.iter == part
                    self.assertTrue(good or called(node) in takers, (path.name, part.lineno))

    def test_where_sets_stand(self):  # L24
        for path in files():
            for node, part in parents(path):
                if called(part) in ("set", "frozenset") or isinstance(part, (ast.Set, ast.SetComp)):
                    self.assertIn(called(node), ("len", "sorted"), (path.name, part.lineno))

    def test_keywords_of_builtins(self):  # L22
        for name, node in all_nodes():
            if called(node) in BUILTINS:
                self.assertLessEqual(set(word.arg for word in node.keywords), {"key", "default"}, (name, node.lineno))


if __name__ == "__main__":
    unittest.main()
