"""Holds the package's files against the rules of the language that can be seen in a file."""

import ast
import builtins
import re
import unittest
from pathlib import Path

PACKAGE = Path(__file__).resolve().parent.parent / "lots"

BUILTINS = set(
    "len range enumerate zip min max sum abs sorted reversed int str bool list tuple dict set frozenset isinstance "
    "ord repr any all divmod Exception ValueError TypeError KeyError IndexError LookupError ZeroDivisionError "
    "ArithmeticError OverflowError RuntimeError NotImplementedError AttributeError StopIteration".split()
)
METHODS = set(
    "append clear copy count endswith extend find get index insert isalnum isalpha isdigit islower isspace isupper "
    "items join keys ljust lower lstrip partition pop remove replace reverse rfind rjust rpartition rsplit rstrip "
    "setdefault split splitlines startswith strip update upper values zfill bit_length".split()
)
DUNDERS = set("__init__ __eq__ __repr__ __str__ __len__".split())
WORDS = set(
    "type typing typing_extensions enum Enum IntEnum StrEnum Flag IntFlag Generic Protocol ABC ABCMeta namedtuple "
    "NamedTuple TypedDict TYPE_CHECKING abstractmethod".split()
)
NODES = (
    ast.Module, ast.ImportFrom, ast.alias, ast.FunctionDef, ast.arguments, ast.arg, ast.Lambda, ast.ClassDef,
    ast.Assign, ast.AugAssign, ast.If, ast.While, ast.For, ast.Return, ast.Break, ast.Continue, ast.Pass, ast.Raise,
    ast.Try, ast.ExceptHandler, ast.Expr, ast.Constant, ast.List, ast.Tuple, ast.Dict, ast.Set, ast.BinOp,
    ast.UnaryOp, ast.BoolOp, ast.Compare, ast.IfExp, ast.Call, ast.keyword, ast.Attribute, ast.Subscript, ast.Slice,
    ast.ListComp, ast.comprehension, ast.JoinedStr, ast.FormattedValue, ast.Name, ast.expr_context, ast.operator,
    ast.unaryop, ast.boolop, ast.cmpop,
)


def package_files():
    return sorted(PACKAGE.glob("*.py"))


def nodes_of(path, *kinds):
    return [node for node in ast.walk(ast.parse(path.read_text())) if isinstance(node, kinds)]


class LanguageTest(unittest.TestCase):
    def each(self, *kinds):
        for path in package_files():
            for node in nodes_of(path, *kinds):
                yield node, f"{path.name}:{getattr(node, 'lineno', 0)}"

    def test_files(self):
        self.assertTrue((PACKAGE / "__init__.py").is_file())
        for path in PACKAGE.iterdir():
            if path.name != "__pycache__":
                self.assertRegex(path.name, r"^([a-z][a-z0-9_]*|__init__)\.py$")

    def test_signs_and_sizes(self):
        for path in package_files():
            text = path.read_text()
            self.assertRegex(text, r"\A[ -~\n]*\Z", path.name)
            self.assertLessEqual(len(text.splitlines()), 400, path.name)
            self.assertLessEqual(max(len(line) for line in text.splitlines()), 120, path.name)
            self.assertFalse(WORDS & set(re.findall(r"\w+", text)), path.name)
            self.assertNotRegex(text, r"dataclass|overload|contextmanager", path.name)

    def test_functions(self):
        for node, where in self.each(ast.FunctionDef):
            self.assertLessEqual(node.end_lineno - node.lineno + 1, 40, where)
            self.assertFalse(node.decorator_list, where)
            rest = node.args
            self.assertFalse(rest.vararg or rest.kwarg or rest.kwonlyargs or rest.posonlyargs, where)

    def test_nodes(self):
        for node, where in self.each(ast.AST):
            self.assertIsInstance(node, NODES, where)
            self.assertNotIsInstance(node, (ast.Div, ast.MatMult), where)

    def test_imports(self):
        for node, where in self.each(ast.ImportFrom):
            self.assertEqual(node.level, 0, where)
            self.assertRegex(node.module, r"^lots\.[a-z]+$", where)
            own = nodes_of(PACKAGE / (node.module.split(".")[1] + ".py"), ast.FunctionDef, ast.ClassDef, ast.Assign)
            defined = {one.targets[0].id if isinstance(one, ast.Assign) and isinstance(one.targets[0], ast.Name)
                       else getattr(one, "name", "") for one in own}
            for alias in node.names:
                self.assertIn(alias.name, defined, where)

    def test_no_two_files_draw_from_one_another(self):
        drawn = {path.stem: {node.module.split(".")[1] for node in nodes_of(path, ast.ImportFrom)}
                 for path in package_files()}
        while drawn:
            free = [name for name, others in drawn.items() if not others & set(drawn)]
            self.assertTrue(free, drawn)
            for name in free:
                del drawn[name]

    def test_statements(self):
        for node, where in self.each(ast.Assign):
            self.assertEqual(len(node.targets), 1, where)
        for node, where in self.each(ast.For, ast.While):
            self.assertFalse(node.orelse, where)
        for node, where in self.each(ast.Try):
            self.assertFalse(node.finalbody, where)
        for node, where in self.each(ast.Expr):
            self.assertIsInstance(node.value, (ast.Call, ast.Constant), where)
        for node, where in self.each(ast.ListComp):
            self.assertEqual(len(node.generators), 1, where)
            self.assertLessEqual(len(node.generators[0].ifs), 1, where)

    def test_values(self):
        for node, where in self.each(ast.Constant):
            self.assertIsInstance(node.value, (int, str, type(None)), where)
            if isinstance(node.value, str):
                self.assertNotIn("%", node.value, where)
        for node, where in self.each(ast.Compare):
            for operator, side in zip(node.ops, node.comparators):
                if isinstance(operator, (ast.Is, ast.IsNot)):
                    self.assertTrue(isinstance(side, ast.Constant) and side.value in (None, True, False), where)
        for node, where in self.each(ast.BinOp):
            if isinstance(node.op, ast.Pow):
                self.assertTrue(isinstance(node.right, ast.Constant) and 0 <= node.right.value <= 64, where)

    def test_names(self):
        own = set(dir(builtins)) - BUILTINS
        for node, where in self.each(ast.Name):
            self.assertNotIn(node.id, own, where)
            self.assertFalse(node.id.startswith("_"), where)
            if isinstance(node.ctx, ast.Store):
                self.assertNotIn(node.id, BUILTINS, where)
        for node, where in self.each(ast.arg):
            self.assertNotIn(node.arg, BUILTINS | own, where)
            self.assertFalse(node.arg.startswith("_"), where)
        for node, where in self.each(ast.FunctionDef, ast.ClassDef):
            self.assertTrue(node.name in DUNDERS or not node.name.startswith("_"), where)

    def test_locals_are_not_called_like_imports_or_classes(self):
        for path in package_files():
            taken = {alias.name for node in nodes_of(path, ast.ImportFrom) for alias in node.names}
            taken = taken | {node.name for node in nodes_of(path, ast.ClassDef)}
            stored = {node.id for node in nodes_of(path, ast.Name) if isinstance(node.ctx, ast.Store)}
            stored = stored | {node.arg for node in nodes_of(path, ast.arg)}
            self.assertFalse(taken & stored, path.name)

    def test_methods(self):
        defined = set()
        for node, where in self.each(ast.ClassDef):
            defined = defined | {one.name for one in node.body if isinstance(one, ast.FunctionDef)}
        for node, where in self.each(ast.Call):
            if isinstance(node.func, ast.Attribute):
                self.assertIn(node.func.attr, METHODS | defined, where)

    def test_no_name_is_a_method_and_a_value(self):
        methods = {one.name for node, where in self.each(ast.ClassDef)
                   for one in node.body if isinstance(one, ast.FunctionDef)}
        for node, where in self.each(ast.Attribute):
            if isinstance(node.ctx, ast.Store):
                self.assertNotIn(node.attr, methods, where)

    def test_sets_are_asked_on_the_spot(self):
        for node, where in self.each(ast.Assign, ast.Return):
            value = node.value
            kept = isinstance(value, ast.Call) and isinstance(value.func, ast.Name) and value.func.id == "set"
            self.assertFalse(kept or isinstance(value, ast.Set), where)


if __name__ == "__main__":
    unittest.main()
