"""The package keeps to the small part of Python that it may use.

Only the rules that can be read off a file plainly are checked here.
"""

import ast
import builtins
import pathlib
import re
import unittest

PACKAGE = pathlib.Path(__file__).resolve().parent.parent / "askhouse"

NODES = (
    ast.Module, ast.ImportFrom, ast.alias, ast.FunctionDef, ast.arguments, ast.arg, ast.ClassDef, ast.Lambda,
    ast.Assign, ast.AugAssign, ast.If, ast.While, ast.For, ast.Return, ast.Break, ast.Continue, ast.Pass,
    ast.Raise, ast.Try, ast.ExceptHandler, ast.Expr,
    ast.Constant, ast.List, ast.Tuple, ast.Dict, ast.BinOp, ast.UnaryOp, ast.BoolOp, ast.Compare, ast.IfExp,
    ast.Call, ast.keyword, ast.Attribute, ast.Subscript, ast.Slice, ast.ListComp, ast.comprehension,
    ast.JoinedStr, ast.FormattedValue, ast.Name, ast.expr_context, ast.boolop, ast.operator, ast.unaryop, ast.cmpop,
)

OWN_NAMES = """len range enumerate zip min max sum abs sorted reversed int str bool list tuple dict set frozenset
isinstance ord repr any all divmod Exception ValueError KeyError IndexError LookupError ZeroDivisionError
ArithmeticError OverflowError RuntimeError NotImplementedError StopIteration""".split()

METHODS = """append clear copy count endswith extend find get index insert isalnum isalpha isdigit islower isspace
isupper items join keys ljust lower lstrip partition pop remove replace reverse rfind rjust rpartition rsplit
rstrip setdefault split splitlines startswith strip update upper values zfill bit_length""".split()

WORDS_NOWHERE = re.compile(
    r"\b(type|typing|typing_extensions|enum|Enum|IntEnum|StrEnum|Flag|IntFlag|Generic|Protocol|ABC|ABCMeta"
    r"|namedtuple|NamedTuple|TypedDict|TYPE_CHECKING|abstractmethod)\b|dataclass|overload|contextmanager")

UNDERSCORED = ("__init__", "__eq__", "__repr__", "__str__", "__len__")


def is_text(node):
    return isinstance(node, ast.Constant) and isinstance(node.value, str)


def bound_names(node):
    if isinstance(node, ast.arg):
        return [node.arg]
    if isinstance(node, ast.Name) and isinstance(node.ctx, ast.Store):
        return [node.id]
    if isinstance(node, (ast.FunctionDef, ast.ClassDef)):
        return [node.name]
    return []


class Language(unittest.TestCase):
    def setUp(self):
        self.files = {path: path.read_text(encoding="utf-8") for path in sorted(PACKAGE.glob("*.py"))}
        self.trees = {path: ast.parse(text) for path, text in self.files.items()}

    def every_node(self):
        for path, tree in self.trees.items():
            for node in ast.walk(tree):
                self.place = f"{path.name}:{getattr(node, 'lineno', 0)}"
                yield node

    def test_only_plain_files_lie_in_the_package(self):
        for path in PACKAGE.iterdir():
            if path.name != "__pycache__":
                self.assertRegex(path.name, r"^([a-z][a-z0-9_]*|__init__)\.py$")

    def test_size_and_signs(self):
        for path, text in self.files.items():
            rows = text.split("\n")
            self.assertLessEqual(len(rows), 400, path.name)
            for row in rows:
                self.assertLessEqual(len(row), 120, row)
                self.assertRegex(row, r"^[ -~]*$")
                self.assertIsNone(WORDS_NOWHERE.search(row), row)

    def test_functions_are_short_and_plain(self):
        for node in self.every_node():
            if isinstance(node, ast.FunctionDef):
                self.assertLessEqual(node.end_lineno - node.lineno + 1, 40, self.place)
                self.assertEqual(node.decorator_list, [], self.place)
            if isinstance(node, ast.arguments):
                self.assertEqual((node.vararg, node.kwarg), (None, None), self.place)
                self.assertEqual(node.kwonlyargs + node.posonlyargs, [], self.place)

    def test_only_known_parts_of_the_language(self):
        for node in self.every_node():
            self.assertIsInstance(node, NODES, self.place)
            self.assertNotIsInstance(node, (ast.Div, ast.MatMult), self.place)
            if isinstance(node, ast.Constant):
                self.assertIn(type(node.value), (int, str, bool, type(None)), self.place)
            if isinstance(node, ast.Expr):
                self.assertTrue(isinstance(node.value, ast.Call) or is_text(node.value), self.place)
            if isinstance(node, ast.Assign):
                self.assertEqual(len(node.targets), 1, self.place)
            if isinstance(node, (ast.For, ast.While)):
                self.assertEqual(node.orelse, [], self.place)
            if isinstance(node, ast.ListComp):
                self.assertEqual(len(node.generators), 1, self.place)
                self.assertLessEqual(len(node.generators[0].ifs), 1, self.place)
            if isinstance(node, ast.FormattedValue):
                self.assertIsInstance(node.value, ast.Name, self.place)

    def test_imports(self):
        for path, tree in self.trees.items():
            for node in ast.walk(tree):
                if isinstance(node, ast.ImportFrom):
                    self.assertIn(node, tree.body)
                    self.assertEqual(node.level, 0)
                    self.assertRegex(node.module, r"^askhouse\.[a-z_]+$")
                    source = self.trees[PACKAGE / (node.module.split(".")[1] + ".py")]
                    defined = [name for part in ast.walk(source) for name in bound_names(part)]
                    for alias in node.names:
                        self.assertIn(alias.name, defined)

    def test_names(self):
        for node in self.every_node():
            for name in bound_names(node):
                self.assertNotIn(name, dir(builtins), self.place)
                if name not in UNDERSCORED:
                    self.assertRegex(name, r"^[A-Za-z][A-Za-z0-9_]*$", self.place)
            if isinstance(node, ast.Name) and node.id in dir(builtins):
                self.assertIn(node.id, OWN_NAMES, self.place)

    def test_methods_are_own_or_listed(self):
        own = [name for tree in self.trees.values() for part in ast.walk(tree) for name in bound_names(part)]
        for node in self.every_node():
            if isinstance(node, ast.Call) and isinstance(node.func, ast.Attribute):
                self.assertIn(node.func.attr, METHODS + own, self.place)

    def test_no_name_is_a_method_and_a_value(self):
        methods, values = set(), set()
        for node in self.every_node():
            if isinstance(node, ast.ClassDef):
                methods.update(part.name for part in node.body if isinstance(part, ast.FunctionDef))
            if isinstance(node, ast.Attribute) and isinstance(node.ctx, ast.Store):
                values.add(node.attr)
        self.assertEqual(methods & values, set())

    def test_is_stands_beside_plain_values_alone(self):
        for node in self.every_node():
            if isinstance(node, ast.Compare) and isinstance(node.ops[0], (ast.Is, ast.IsNot)):
                side = node.comparators[0]
                self.assertTrue(isinstance(side, ast.Constant), self.place)
                self.assertIn(type(side.value), (bool, type(None)), self.place)


if __name__ == "__main__":
    unittest.main()
