"""The package keeps to the part of Python that it is to be written in, as far as a look at its files can tell."""

import ast
import builtins
import pathlib
import re
import unittest

PACKAGE = pathlib.Path(__file__).resolve().parent.parent / "knittext"
OWN_NAMES = set(
    "len range enumerate zip min max sum abs sorted reversed int str bool list tuple dict set frozenset isinstance ord "
    "repr any all divmod Exception ValueError TypeError KeyError IndexError LookupError ZeroDivisionError "
    "ArithmeticError OverflowError RuntimeError NotImplementedError StopIteration".split())
METHODS = set(
    "append clear copy count endswith extend find get index insert isalnum isalpha isdigit islower isspace isupper "
    "items join keys ljust lower lstrip partition pop remove replace reverse rfind rjust rpartition rsplit rstrip "
    "setdefault split splitlines startswith strip update upper values zfill bit_length".split())
NOT_AS_VALUES = set(
    "items keys values pop update append clear extend insert remove reverse setdefault sort args encode format".split())
WALKED = {"zip", "enumerate", "reversed", "range"}
WALKERS = {"list", "tuple", "dict", "sorted", "sum", "any", "all", "enumerate", "zip", "min", "max"}
WORDS = re.compile(
    r"\b(type|typing|typing_extensions|enum|Enum|IntEnum|StrEnum|Flag|IntFlag|Generic|Protocol|ABC|ABCMeta|namedtuple|"
    r"NamedTuple|TypedDict|TYPE_CHECKING|abstractmethod)\b|dataclass|overload|contextmanager")
NOWHERE = set("register mro elements open input version_info with_traceback add_note".split())
STATEMENTS = (
    ast.FunctionDef, ast.ClassDef, ast.Return, ast.Assign, ast.AugAssign, ast.For, ast.While, ast.If, ast.Raise,
    ast.Try, ast.ImportFrom, ast.Expr, ast.Pass, ast.Break, ast.Continue)
EXPRESSIONS = (
    ast.BoolOp, ast.BinOp, ast.UnaryOp, ast.Lambda, ast.IfExp, ast.Dict, ast.ListComp, ast.Compare, ast.Call,
    ast.JoinedStr, ast.FormattedValue, ast.Constant, ast.Attribute, ast.Subscript, ast.Name, ast.List, ast.Tuple,
    ast.Slice)


def files():
    return sorted(PACKAGE.rglob("*.py"))


def trees():
    return [(path.name, ast.parse(path.read_text("ascii"))) for path in files()]


def nodes():
    return [(name, node) for name, tree in trees() for node in ast.walk(tree)]


def bound_names(node):
    if isinstance(node, (ast.FunctionDef, ast.ClassDef)):
        return [node.name]
    if isinstance(node, ast.arg):
        return [node.arg]
    if isinstance(node, ast.Name) and isinstance(node.ctx, ast.Store):
        return [node.id]
    return []


class Form(unittest.TestCase):
    def test_files(self):
        for path in PACKAGE.rglob("*"):
            if path.name != "__pycache__" and path.parent.name != "__pycache__":
                self.assertRegex(path.name, r"^([a-z][a-z0-9_]*|__init__|__main__)\.py$")
        self.assertTrue((PACKAGE / "__init__.py").is_file())

    def test_sizes_and_signs(self):
        for path in files():
            lines = path.read_bytes().decode("ascii").split("\n")
            self.assertLessEqual(len(lines), 401, path)
            for line in lines:
                self.assertLessEqual(len(line), 120, line)
                self.assertRegex(line, r"^[ -~]*$")
                self.assertIsNone(WORDS.search(line), line)
        for name, node in nodes():
            if isinstance(node, ast.FunctionDef):
                self.assertLessEqual(node.end_lineno - node.lineno + 1, 40, (name, node.name))

    def test_statements_and_expressions(self):
        for name, node in nodes():
            where = (name, getattr(node, "lineno", 0), ast.dump(node)[:80])
            if isinstance(node, ast.stmt):
                self.assertIsInstance(node, STATEMENTS, where)
            if isinstance(node, ast.expr):
                self.assertIsInstance(node, EXPRESSIONS, where)
            if isinstance(node, ast.Assign):
                self.assertEqual(len(node.targets), 1, where)
                self.assertIsInstance(node.targets[0], (ast.Name, ast.Attribute, ast.Subscript), where)
            if isinstance(node, (ast.For, ast.While)):
                self.assertEqual(node.orelse, [], where)
            if isinstance(node, ast.Constant):
                self.assertIn(type(node.value), (int, str, bool, type(None)), where)
            if isinstance(node, ast.ListComp):
                self.assertEqual(len(node.generators), 1, where)
                self.assertLessEqual(len(node.generators[0].ifs), 1, where)
            self.assertNotIsInstance(node, (ast.Div, ast.Starred), where)
            if isinstance(node, ast.Compare) and any(isinstance(op, (ast.Is, ast.IsNot)) for op in node.ops):
                self.assertIsInstance(node.comparators[0], ast.Constant, where)

    def test_functions(self):
        for name, node in nodes():
            if isinstance(node, ast.FunctionDef):
                given = node.args
                self.assertEqual((node.decorator_list, given.vararg, given.kwarg, given.kwonlyargs, given.posonlyargs),
                                 ([], None, None, [], []), (name, node.name))

    def test_the_top_of_each_file(self):
        for name, tree in trees():
            self.assertIsNotNone(ast.get_docstring(tree), name)
            bound = [one for node in tree.body for one in bound_names(node)]
            for node in tree.body[1:]:
                self.assertIsInstance(node, (ast.ImportFrom, ast.FunctionDef, ast.ClassDef, ast.Assign), name)
                if isinstance(node, ast.ImportFrom):
                    self.assertRegex(node.module, r"^knittext\.[a-z]+$")
                    self.assertEqual(node.level, 0)
                    bound += [alias.name for alias in node.names]
                if isinstance(node, ast.Assign):
                    bound.append(node.targets[0].id)
                    self.assertFalse(any(isinstance(part, ast.Call) for part in ast.walk(node)), name)
            self.assertEqual(len(bound), len(set(bound)), name)

    def test_names(self):
        for name, tree in trees():
            defined = set(one for node in ast.walk(tree) for one in bound_names(node))
            imported = [alias.name for node in ast.walk(tree) if isinstance(node, ast.ImportFrom)
                        for alias in node.names]
            classes = [node.name for node in ast.walk(tree) if isinstance(node, ast.ClassDef)]
            for one in defined - {"__init__"}:
                self.assertRegex(one, r"^[A-Za-z][A-Za-z0-9_]*$", name)
                self.assertNotIn(one, NOWHERE, name)
            for node in ast.walk(tree):
                if isinstance(node, ast.Name) and isinstance(node.ctx, ast.Load):
                    self.assertIn(node.id, defined | set(imported) | OWN_NAMES, name)
                if isinstance(node, ast.arg) or isinstance(node, ast.Name) and isinstance(node.ctx, ast.Store):
                    one = bound_names(node)[0]
                    self.assertNotIn(one, dir(builtins) + imported + classes, name)

    def test_methods_and_values(self):
        methods = set(node.name for _, tree in nodes() if isinstance(tree, ast.ClassDef) for node in tree.body
                      if isinstance(node, ast.FunctionDef))
        called = set(node.func.attr for _, node in nodes()
                     if isinstance(node, ast.Call) and isinstance(node.func, ast.Attribute))
        values = set(node.attr for _, node in nodes() if isinstance(node, ast.Attribute)
                     and isinstance(node.ctx, ast.Store))
        builtin = set(one for kind in (int, str, list, dict, set, tuple, bytes) for one in dir(kind))
        self.assertEqual(called - methods - METHODS, set())
        self.assertEqual(methods & values, set())
        self.assertEqual(values & (NOWHERE | NOT_AS_VALUES), set())
        self.assertEqual((methods | values) & (builtin - {"__init__"}), set())

    def test_walked_on_the_spot(self):
        for name, tree in trees():
            walked = []
            for node in ast.walk(tree):
                if isinstance(node, (ast.For, ast.comprehension)):
                    walked.append(node.iter)
                if isinstance(node, ast.Call) and isinstance(node.func, ast.Name) and node.func.id in WALKERS:
                    walked += node.args[:1]
            for node in ast.walk(tree):
                if isinstance(node, ast.Call) and isinstance(node.func, ast.Name) and node.func.id in WALKED:
                    self.assertIn(node, walked, (name, node.lineno))


if __name__ == "__main__":
    unittest.main()
