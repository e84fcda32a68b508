"""Holds the package's files against the language's rules, as far as they can be seen without running them."""

import ast
import builtins
import pathlib
import re
import unittest

PACKAGE = pathlib.Path(__file__).resolve().parent.parent / "castwright"

ALLOWED_NODES = (
    ast.Module, ast.FunctionDef, ast.ClassDef, ast.ImportFrom, ast.alias, ast.arguments, ast.arg, ast.Lambda,
    ast.Assign, ast.AugAssign, ast.If, ast.While, ast.For, ast.Return, ast.Break, ast.Continue, ast.Pass, ast.Raise,
    ast.Try, ast.ExceptHandler, ast.Expr, ast.Constant, ast.List, ast.Tuple, ast.Dict, ast.BinOp, ast.UnaryOp,
    ast.BoolOp, ast.Compare, ast.IfExp, ast.Call, ast.keyword, ast.Attribute, ast.Subscript, ast.Slice, ast.Name,
    ast.ListComp, ast.comprehension, ast.JoinedStr, ast.FormattedValue, ast.expr_context, ast.boolop, ast.operator,
    ast.unaryop, ast.cmpop,
)
BUILTINS = set(
    "len range enumerate zip min max sum abs sorted reversed int str bool list tuple dict set frozenset isinstance"
    " ord repr any all divmod Exception ValueError TypeError KeyError IndexError LookupError ZeroDivisionError"
    " ArithmeticError OverflowError RuntimeError NotImplementedError StopIteration".split()
)
METHODS = set(
    "append clear copy count endswith extend find get index insert isalnum isalpha isdigit islower isspace isupper"
    " items join keys ljust lower lstrip partition pop remove replace reverse rfind rjust rpartition rsplit rstrip"
    " setdefault split splitlines startswith strip update upper values zfill bit_length __init__".split()
)
DUNDERS = {"__init__", "__eq__", "__repr__", "__str__", "__len__"}
BANNED_NAMES = set("register mro elements open input version_info with_traceback add_note format format_map".split())
BANNED_WORDS = (
    r"\b(type|typing|typing_extensions|enum|Enum|IntEnum|StrEnum|Flag|IntFlag|Generic|Protocol|ABC|ABCMeta"
    r"|namedtuple|NamedTuple|TypedDict|TYPE_CHECKING|abstractmethod)\b|dataclass|overload|contextmanager"
)


def package_files():
    return sorted(path for path in PACKAGE.rglob("*") if "__pycache__" not in path.parts)


def trees():
    return {path: ast.parse(path.read_text("utf-8")) for path in package_files()}


def nodes(kinds):
    for path, tree in trees().items():
        for node in ast.walk(tree):
            if isinstance(node, kinds):
                yield path.name, node


def bound_names(tree):
    for node in ast.walk(tree):
        if isinstance(node, (ast.FunctionDef, ast.ClassDef)):
            yield node.name
        elif isinstance(node, ast.arg):
            yield node.arg
        elif isinstance(node, ast.Name) and isinstance(node.ctx, ast.Store):
            yield node.id
        elif isinstance(node, ast.alias):
            yield node.name
        elif isinstance(node, ast.ExceptHandler) and node.name:
            yield node.name


def top_names(tree):
    for node in tree.body:
        if isinstance(node, (ast.FunctionDef, ast.ClassDef)):
            yield node.name
        elif isinstance(node, ast.Assign):
            yield node.targets[0].id


class FilesTest(unittest.TestCase):
    def test_only_plain_files(self):
        self.assertIn(PACKAGE / "__init__.py", package_files())
        for path in package_files():
            self.assertRegex(path.name, r"\A([a-z][a-z0-9_]*|__init__)\.py\Z")
            self.assertFalse(path.stem != "__init__" and hasattr(builtins, path.stem), path.name)

    def test_signs_and_sizes(self):
        for path in package_files():
            rows = path.read_text("utf-8").split("\n")
            self.assertLessEqual(len(rows), 400, path.name)
            for number, text in enumerate(rows, start=1):
                self.assertRegex(text, r"\A[ -~]{0,120}\Z", (path.name, number))

    def test_functions_are_short(self):
        for name, node in nodes(ast.FunctionDef):
            self.assertLessEqual(node.end_lineno - node.lineno + 1, 40, (name, node.name))

    def test_words_that_stand_nowhere(self):
        for path in package_files():
            self.assertIsNone(re.search(BANNED_WORDS, path.read_text("utf-8")), path.name)


class TopTest(unittest.TestCase):
    def test_what_stands_at_the_top(self):
        for path, tree in trees().items():
            self.assertIsNotNone(ast.get_docstring(tree), path.name)
            for node in tree.body[1:]:
                self.assertIsInstance(node, (ast.ImportFrom, ast.FunctionDef, ast.ClassDef, ast.Assign), path.name)
            told = list(top_names(tree))
            self.assertEqual(len(told), len(set(told)), path.name)

    def test_imports_name_what_a_file_of_the_package_defines(self):
        known = {"castwright." + path.stem: set(top_names(tree)) for path, tree in trees().items()}
        for name, node in nodes(ast.ImportFrom):
            self.assertEqual(node.level, 0, name)
            for alias in node.names:
                self.assertIn(alias.name, known.get(node.module, ()), name)
                self.assertIsNone(alias.asname, name)

    def test_no_files_draw_from_one_another(self):
        drawn = {}
        for name, node in nodes(ast.ImportFrom):
            drawn.setdefault("castwright." + name[:-3], set()).add(node.module)
        while drawn:
            free = [module for module in drawn if not drawn[module] & set(drawn)]
            self.assertTrue(free, drawn)
            for module in free:
                drawn.pop(module)

    def test_the_top_file_binds_nothing(self):
        tree = ast.parse((PACKAGE / "__init__.py").read_text("utf-8"))
        self.assertEqual(list(bound_names(tree)), [])


class CodeTest(unittest.TestCase):
    def test_only_the_listed_forms(self):
        for name, node in nodes(ast.AST):
            self.assertIsInstance(node, ALLOWED_NODES, (name, getattr(node, "lineno", None)))

    def test_functions_and_classes_are_plain(self):
        for name, node in nodes((ast.FunctionDef, ast.ClassDef)):
            self.assertEqual(node.decorator_list, [], (name, node.name))
        for name, node in nodes(ast.arguments):
            self.assertEqual((node.vararg, node.kwarg, node.kwonlyargs, node.posonlyargs), (None, None, [], []), name)
        for name, node in nodes(ast.ClassDef):
            self.assertLessEqual(len(node.bases), 1, (name, node.name))
            for part in node.body:
                self.assertIsInstance(part, (ast.FunctionDef, ast.Pass), (name, node.name))

    def test_assignments_loops_and_tries(self):
        for name, node in nodes(ast.Assign):
            self.assertEqual(len(node.targets), 1, (name, node.lineno))
            self.assertNotIsInstance(node.targets[0], (ast.Tuple, ast.List), (name, node.lineno))
        for name, node in nodes((ast.For, ast.While)):
            self.assertEqual(node.orelse, [], (name, node.lineno))
        for name, node in nodes(ast.Try):
            self.assertEqual(node.finalbody, [], (name, node.lineno))
        for name, node in nodes(ast.ListComp):
            self.assertEqual(len(node.generators), 1, (name, node.lineno))
            self.assertLessEqual(len(node.generators[0].ifs), 1, (name, node.lineno))

    def test_is_stands_beside_none_and_truths(self):
        for name, node in nodes(ast.Compare):
            for operator, right in zip(node.ops, node.comparators):
                if isinstance(operator, (ast.Is, ast.IsNot)):
                    self.assertIsInstance(right, ast.Constant, (name, node.lineno))
                    self.assertIn(right.value, (None, True, False), (name, node.lineno))

    def test_values(self):
        for name, node in nodes(ast.Constant):
            self.assertIsInstance(node.value, (int, str, type(None)), (name, node.lineno))
            if isinstance(node.value, str):
                self.assertNotIn("%", node.value, (name, node.lineno))
        for name, node in nodes((ast.Div, ast.MatMult)):
            self.fail(name)


def called(node):
    """The name of what a call calls, of a method too; None of what is no call."""
    if not isinstance(node, ast.Call):
        return None
    return node.func.attr if isinstance(node.func, ast.Attribute) else node.func.id


def nodes_with_parents(kinds):
    for path, tree in trees().items():
        for parent in ast.walk(tree):
            for node in ast.iter_child_nodes(parent):
                node.parent = parent
        for node in ast.walk(tree):
            if isinstance(node, kinds):
                yield (path.name, node.lineno), node


class CallsTest(unittest.TestCase):
    def test_errors_are_made_and_taken_by_name(self):
        own = {node.name for name, node in nodes(ast.ClassDef)}
        for name, node in nodes(ast.Raise):
            self.assertIn(called(node.exc), own, (name, node.lineno))
        for name, node in nodes(ast.ExceptHandler):
            self.assertIsInstance(node.type, ast.Name, (name, node.lineno))
            self.assertIn(node.type.id, own, (name, node.lineno))

    def test_lambdas_and_powers(self):
        seen = set()
        for place, node in nodes_with_parents((ast.Lambda,)):
            told = place + tuple(part.arg for part in node.args.args)
            self.assertNotIn(told, seen)
            seen.add(told)
        for place, node in nodes_with_parents((ast.BinOp,)):
            if isinstance(node.op, ast.Pow):
                self.assertIsInstance(node.right, ast.Constant, place)
                self.assertLessEqual(node.right.value, 64, place)

    def test_python_s_own_as_they_are_called(self):
        for place, node in nodes_with_parents((ast.Name,)):
            if node.id in BUILTINS and node.id not in ("int", "str", "bool", "list", "tuple", "dict", "Exception",
                                                       "ValueError"):
                self.assertIsInstance(node.parent, ast.Call, place)
                self.assertIs(node.parent.func, node, place)
        keywords = {"key": ("sorted", "min", "max"), "reverse": ("sorted",), "default": ("min", "max"),
                    "start": ("sum", "enumerate"), "strict": ("zip",)}
        for place, node in nodes_with_parents((ast.keyword,)):
            self.assertIn(called(node.parent), keywords.get(node.arg, ()), place)

    def test_walked_on_the_spot(self):
        takers = {"list", "tuple", "dict", "sorted", "sum", "any", "all", "enumerate", "zip", "min", "max", "join"}
        for place, node in nodes_with_parents((ast.Call,)):
            if called(node) in ("zip", "enumerate", "reversed", "range", "items", "keys", "values"):
                is_walked = isinstance(node.parent, (ast.For, ast.comprehension)) and node.parent.iter is node
                is_taken = called(node.parent) in takers and node.parent.args[0] is node
                self.assertTrue(is_walked or is_taken, place)

    def test_what_a_loop_walks_is_not_changed_in_it(self):
        changes = {"append", "clear", "extend", "insert", "pop", "remove", "reverse", "setdefault", "update"}
        for place, node in nodes_with_parents((ast.For,)):
            walked = {part.id for part in ast.walk(node.iter) if isinstance(part, ast.Name)}
            for part in ast.walk(node):
                if called(part) in changes and isinstance(part.func, ast.Attribute):
                    self.assertNotIn(getattr(part.func.value, "id", None), walked, place)

    def test_sets_are_not_kept(self):
        for place, node in nodes_with_parents((ast.Call,)):
            if called(node) in ("set", "frozenset"):
                around = node.parent
                while isinstance(around, ast.BinOp):
                    around = around.parent
                self.assertTrue(called(around) in ("sorted", "len") or isinstance(around, ast.Compare), place)

    def test_the_methods_with_two_underscores(self):
        for name, node in nodes(ast.ClassDef):
            for part in node.body:
                if isinstance(part, ast.FunctionDef) and part.name.startswith("__"):
                    self.assertEqual(part.name, "__init__", (name, node.name))
                    self.assertFalse([inner for inner in ast.walk(part) if isinstance(inner, ast.Return)], name)

    def test_lists_and_dicts_of_the_top_are_only_read(self):
        for path, tree in trees().items():
            told = {node.targets[0].id for node in tree.body if isinstance(node, ast.Assign)
                    and isinstance(node.value, (ast.List, ast.Dict))}
            for part in ast.walk(tree):
                for node in ast.iter_child_nodes(part):
                    if isinstance(node, ast.Name) and node.id in told and isinstance(node.ctx, ast.Load):
                        is_read = isinstance(part, ast.Subscript) and isinstance(part.ctx, ast.Load)
                        is_asked = isinstance(part, ast.Attribute) and part.attr == "get"
                        self.assertTrue(is_read or is_asked or isinstance(part, ast.Compare), (path.name, node.lineno))


class NamesTest(unittest.TestCase):
    def test_bound_names(self):
        for path, tree in trees().items():
            for name in bound_names(tree):
                if name not in DUNDERS:
                    self.assertRegex(name, r"\A[A-Za-z][A-Za-z0-9_]*\Z", path.name)
                    self.assertFalse(hasattr(builtins, name), (path.name, name))
                    self.assertNotIn(name, BANNED_NAMES, path.name)

    def test_no_local_is_called_like_a_class_or_an_import(self):
        for path, tree in trees().items():
            taken = {alias.name for node in tree.body if isinstance(node, ast.ImportFrom) for alias in node.names}
            taken |= {node.name for node in tree.body if isinstance(node, ast.ClassDef)}
            for node in ast.walk(tree):
                if isinstance(node, ast.arg):
                    self.assertNotIn(node.arg, taken, path.name)
                if isinstance(node, ast.Name) and isinstance(node.ctx, ast.Store):
                    self.assertNotIn(node.id, taken, path.name)

    def test_used_names(self):
        for path, tree in trees().items():
            bound = set(bound_names(tree))
            for node in ast.walk(tree):
                if isinstance(node, ast.Name) and node.id not in bound:
                    self.assertIn(node.id, BUILTINS, (path.name, node.lineno))

    def test_methods(self):
        own = {part.name for name, node in nodes(ast.ClassDef) for part in node.body if hasattr(part, "name")}
        given = set()
        for name, node in nodes(ast.Attribute):
            self.assertNotIn(node.attr, BANNED_NAMES, (name, node.lineno))
            if isinstance(node.ctx, ast.Store):
                given.add(node.attr)
        self.assertEqual(own & given, set())
        for name, node in nodes(ast.Call):
            if isinstance(node.func, ast.Attribute):
                self.assertIn(node.func.attr, METHODS | own, (name, node.lineno))


if __name__ == "__main__":
    unittest.main()
