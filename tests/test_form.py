"""Holds the package's files against a part of the language's rules; L13, L19, L22 to L24 and L28 are not looked at."""

import ast
import builtins
import pathlib
import re
import unittest

PACKAGE = pathlib.Path(__file__).resolve().parent.parent / "castwright"

ALLOWED_NODES = (
    ast.Module, ast.FunctionDef, ast.ClassDef, ast.ImportFrom, ast.alias, ast.arguments, ast.arg, ast.Lambda,
    ast.Assign, ast.AugAssign, ast.If, ast.While, ast.For, ast.Return, ast.Break, ast.Continue, ast.Pass, ast.Raise,
    ast.Try, ast.ExceptHandler, ast.Expr, ast.Constant, ast.List, ast.Tuple, ast.Dict, ast.BinOp, ast.UnaryOp,
    ast.BoolOp, ast.Compare, ast.IfExp, ast.Call, ast.keyword, ast.Attribute, ast.Subscript, ast.Slice, ast.Name,
    ast.ListComp, ast.comprehension, ast.JoinedStr, ast.FormattedValue, ast.expr_context, ast.boolop, ast.operator,
    ast.unaryop, ast.cmpop,
)
BUILTINS = set(
    "len range enumerate zip min max sum abs sorted reversed int str bool list tuple dict set frozenset isinstance"
    " ord repr any all divmod Exception ValueError TypeError KeyError IndexError LookupError ZeroDivisionError"
    " ArithmeticError OverflowError RuntimeError NotImplementedError StopIteration".split()
)
METHODS = set(
    "append clear copy count endswith extend find get index insert isalnum isalpha isdigit islower isspace isupper"
    " items join keys ljust lower lstrip partition pop remove replace reverse rfind rjust rpartition rsplit rstrip"
    " setdefault split splitlines startswith strip update upper values zfill bit_length __init__".split()
)
DUNDERS = {"__init__", "__eq__", "__repr__", "__str__", "__len__"}
BANNED_NAMES = set("register mro elements open input version_info with_traceback add_note format format_map".split())
BANNED_WORDS = (
    r"\b(type|typing|typing_extensions|enum|Enum|IntEnum|StrEnum|Flag|IntFlag|Generic|Protocol|ABC|ABCMeta"
    r"|namedtuple|NamedTuple|TypedDict|TYPE_CHECKING|abstractmethod)\b|dataclass|overload|contextmanager"
)


def package_files():
    return sorted(path for path in PACKAGE.rglob("*") if "__pycache__" not in path.parts)


def trees():
    return {path: ast.parse(path.read_text("utf-8")) for path in package_files()}


def nodes(kinds):
    for path, tree in trees().items():
        for node in ast.walk(tree):
            if isinstance(node, kinds):
                yield path.name, node


def bound_names(tree):
    for node in ast.walk(tree):
        if isinstance(node, (ast.FunctionDef, ast.ClassDef)):
            yield node.name
        elif isinstance(node, ast.arg):
            yield node.arg
        elif isinstance(node, ast.Name) and isinstance(node.ctx, ast.Store):
            yield node.id
        elif isinstance(node, ast.alias):
            yield node.name
        elif isinstance(node, ast.ExceptHandler) and node.name:
            yield node.name


def top_names(tree):
    for node in tree.body:
        if isinstance(node, (ast.FunctionDef, ast.ClassDef)):
            yield node.name
        elif isinstance(node, ast.Assign):
            yield node.targets[0].id


class FilesTest(unittest.TestCase):
    def test_only_plain_files(self):
        self.assertIn(PACKAGE / "__init__.py", package_files())
        for path in package_files():
            self.assertRegex(path.name, r"\A([a-z][a-z0-9_]*|__init__)\.py\Z")
            self.assertFalse(path.stem != "__init__" and hasattr(builtins, path.stem), path.name)

    def test_signs_and_sizes(self):
        for path in package_files():
            rows = path.read_text("utf-8").split("\n")
            self.assertLessEqual(len(rows), 400, path.name)
            for number, text in enumerate(rows, start=1):
                self.assertRegex(text, r"\A[ -~]{0,120}\Z", (path.name, number))

    def test_functions_are_short(self):
        for name, node in nodes(ast.FunctionDef):
            self.assertLessEqual(node.end_lineno - node.lineno + 1, 40, (name, node.name))

    def test_words_that_stand_nowhere(self):
        for path in package_files():
            self.assertIsNone(re.search(BANNED_WORDS, path.read_text("utf-8")), path.name)


class TopTest(unittest.TestCase):
    def test_what_stands_at_the_top(self):
        for path, tree in trees().items():
            self.assertIsNotNone(ast.get_docstring(tree), path.name)
            for node in tree.body[1:]:
                self.assertIsInstance(node, (ast.ImportFrom, ast.FunctionDef, ast.ClassDef, ast.Assign), path.name)
            told = list(top_names(tree))
            self.assertEqual(len(told), len(set(told)), path.name)

    def test_imports_name_what_a_file_of_the_package_defines(self):
        known = {"castwright." + path.stem: set(top_names(tree)) for path, tree in trees().items()}
        for name, node in nodes(ast.ImportFrom):
            self.assertEqual(node.level, 0, name)
            for alias in node.names:
                self.assertIn(alias.name, known.get(node.module, ()), name)
                self.assertIsNone(alias.asname, name)

    def test_no_files_draw_from_one_another(self):
        drawn = {}
        for name, node in nodes(ast.ImportFrom):
            drawn.setdefault("castwright." + name[:-3], set()).add(node.module)
        while drawn:
            free = [module for module in drawn if not drawn[module] & set(drawn)]
            self.assertTrue(free, drawn)
            for module in free:
                drawn.pop(module)

    def test_the_top_file_binds_nothing(self):
        tree = ast.parse((PACKAGE / "__init__.py").read_text("utf-8"))
        self.assertEqual(list(bound_names(tree)), [])


class CodeTest(unittest.TestCase):
    def test_only_the_listed_forms(self):
        for name, node in nodes(ast.AST):
            self.assertIsInstance(node, ALLOWED_NODES, (name, getattr(node, "lineno", None)))

    def test_functions_and_classes_are_plain(self):
        for name, node in nodes((ast.FunctionDef, ast.ClassDef)):
            self.assertEqual(node.decorator_list, [], (name, node.name))
        for name, node in nodes(ast.arguments):
            self.assertEqual((node.vararg, node.kwarg, node.kwonlyargs, node.posonlyargs), (None, None, [], []), name)
        for name, node in nodes(ast.ClassDef):
            self.assertLessEqual(len(node.bases), 1, (name, node.name))
            for part in node.body:
                self.assertIsInstance(part, (ast.FunctionDef, ast.Pass), (name, node.name))

    def test_assignments_loops_and_tries(self):
        for name, node in nodes(ast.Assign):
            self.assertEqual(len(node.targets), 1, (name, node.lineno))
            self.assertNotIsInstance(node.targets[0], (ast.Tuple, ast.List), (name, node.lineno))
        for name, node in nodes((ast.For, ast.While)):
            self.assertEqual(node.orelse, [], (name, node.lineno))
        for name, node in nodes(ast.Try):
            self.assertEqual(node.finalbody, [], (name, node.lineno))
        for name, node in nodes(ast.ListComp):
            self.assertEqual(len(node.generators), 1, (name, node.lineno))
            self.assertLessEqual(len(node.generators[0].ifs), 1, (name, node.lineno))

    def test_is_stands_beside_none_and_truths(self):
        for name, node in nodes(ast.Compare):
            for operator, right in zip(node.ops, node.comparators):
                if isinstance(operator, (ast.Is, ast.IsNot)):
                    self.assertIsInstance(right, ast.Constant, (name, node.lineno))
                    self.assertIn(right.value, (None, True, False), (name, node.lineno))

    def test_values(self):
        for name, node in nodes(ast.Constant):
            self.assertIsInstance(node.value, (int, str, type(None)), (name, node.lineno))
            if isinstance(node.value, str):
                self.assertNotIn("%", node.value, (name, node.lineno))
        for name, node in nodes((ast.Div, ast.MatMult)):
            self.fail(name)


class NamesTest(unittest.TestCase):
    def test_bound_names(self):
        for path, tree in trees().items():
            for name in bound_names(tree):
                if name not in DUNDERS:
                    self.assertRegex(name, r"\A[A-Za-z][A-Za-z0-9_]*\Z", path.name)
                    self.assertFalse(hasattr(builtins, name), (path.name, name))
                    self.assertNotIn(name, BANNED_NAMES, path.name)

    def test_used_names(self):
        for path, tree in trees().items():
            bound = set(bound_names(tree))
            for node in ast.walk(tree):
                if isinstance(node, ast.Name) and node.id not in bound:
                    self.assertIn(node.id, BUILTINS, (path.name, node.lineno))

    def test_methods(self):
        own = {part.name for name, node in nodes(ast.ClassDef) for part in node.body if hasattr(part, "name")}
        given = set()
        for name, node in nodes(ast.Attribute):
            self.assertNotIn(node.attr, BANNED_NAMES, (name, node.lineno))
            if isinstance(node.ctx, ast.Store):
                given.add(node.attr)
        self.assertEqual(own & given, set())
        for name, node in nodes(ast.Call):
            if isinstance(node.func, ast.Attribute):
                self.assertIn(node.func.attr, METHODS | own, (name, node.lineno))


if __name__ == "__main__":
    unittest.main()
