"""Some rules of the package's language that can be seen in the code alone."""

import ast
import builtins
import re
import unittest
from functools import cache
from pathlib import Path

PACKAGE = Path(__file__).resolve().parent.parent / "slackfigures"

BUILTINS = {
    "len", "range", "enumerate", "zip", "min", "max", "sum", "abs", "sorted", "reversed", "int", "str", "bool", "list",
    "tuple", "dict", "set", "isinstance", "ord", "repr", "any", "all", "divmod", "ValueError", "KeyError",
}
BUILTIN_METHODS = {
    "append", "copy", "count", "endswith", "extend", "find", "get", "index", "insert", "isdigit", "items", "join", "keys",
    "pop", "remove", "removeprefix", "removesuffix", "replace", "reverse", "split", "startswith", "strip", "values",
    "bit_length", "add",
}
BARRED_WORDS = (
    "type", "typing", "enum", "Enum", "Flag", "Generic", "Protocol", "ABC", "namedtuple", "NamedTuple", "TypedDict",
    "abstractmethod",
)
BARRED_NODES = (
    ast.Global, ast.Nonlocal, ast.AsyncFunctionDef, ast.Await, ast.Import, ast.Div, ast.Pow, ast.MatMult, ast.Set,
)


@cache
def trees():
    return [(path.stem, ast.parse(path.read_text())) for path in sorted(PACKAGE.glob("*.py"))]


def nodes_of(kinds):
    return [(name, node) for name, tree in trees() for node in ast.walk(tree) if isinstance(node, kinds)]


def own_methods():
    return {
        method.name for name, made in nodes_of(ast.ClassDef) for method in made.body
        if isinstance(method, ast.FunctionDef)
    }


def assigned_attributes():
    return {
        node.attr for name, node in nodes_of(ast.Attribute) if isinstance(node.ctx, ast.Store)
    }


def bound_within(function):
    """The parameters, and all names that are assigned in the function."""
    names = {argument.arg for argument in function.args.args}
    for node in ast.walk(function):
        if isinstance(node, ast.Name) and isinstance(node.ctx, ast.Store):
            names.add(node.id)
        if isinstance(node, (ast.MatchAs, ast.ExceptHandler)) and node.name:
            names.add(node.name)
    return names


class TestLanguage(unittest.TestCase):
    def test_no_barred_statements_and_signs(self):
        for name, node in nodes_of(BARRED_NODES):
            self.fail(f"{name} {ast.dump(node)[:80]}")

    def test_imports(self):
        imported = {}
        for name, tree in trees():
            for node in tree.body:
                if isinstance(node, ast.ImportFrom):
                    package, module = node.module.split(".")
                    self.assertEqual((package, node.level), ("slackfigures", 0))
                    made = {
                        each.name for each in ast.parse((PACKAGE / f"{module}.py").read_text()).body
                        if isinstance(each, (ast.FunctionDef, ast.ClassDef))
                    }
                    for alias in node.names:
                        self.assertIn(alias.name, made, name)
                        self.assertIsNone(alias.asname)
                    imported.setdefault(name, set()).add(module)
        self.assert_no_circle(imported)

    def assert_no_circle(self, imported):
        left = {name for name, tree in trees()}
        while left:
            free = {name for name in left if not imported.get(name, set()) & left}
            self.assertTrue(free, left)
            left -= free

    def test_each_import_is_used(self):
        for name, tree in trees():
            used = {node.id for node in ast.walk(tree) if isinstance(node, ast.Name)}
            for node in tree.body:
                if isinstance(node, ast.ImportFrom):
                    for alias in node.names:
                        self.assertIn(alias.name, used, name)

    def test_builtins(self):
        for name, node in nodes_of(ast.Name):
            if hasattr(builtins, node.id):
                self.assertIn(node.id, BUILTINS, name)
                self.assertIsInstance(node.ctx, ast.Load, (name, node.id))

    def test_names(self):
        for name, tree in trees():
            taken = set(dir(builtins))
            for node in tree.body:
                if isinstance(node, ast.ImportFrom):
                    taken |= {alias.name for alias in node.names}
                if isinstance(node, (ast.ClassDef, ast.FunctionDef)):
                    taken.add(node.name)
            for node in ast.walk(tree):
                if isinstance(node, ast.FunctionDef):
                    bound = bound_within(node)
                    self.assertEqual(bound & taken, set(), (name, node.name))
                    self.assertTrue(all(re.fullmatch("[a-z][a-z0-9_]*", each) for each in bound), (name, node.name))

    def test_methods(self):
        known = BUILTIN_METHODS | own_methods()
        for name, node in nodes_of(ast.Call):
            if isinstance(node.func, ast.Attribute) and node.func.attr != "__init__":
                self.assertIn(node.func.attr, known, name)

    def test_no_name_is_a_method_and_an_attribute(self):
        self.assertEqual(own_methods() & assigned_attributes(), set())
        plain = own_methods() - {"__init__"}
        for kind in (str, int, list, dict, set, bytes, tuple):
            self.assertEqual((plain | assigned_attributes()) & set(dir(kind)), set())

    def test_each_attribute_that_is_read_is_assigned(self):
        called = {id(node.func) for name, node in nodes_of(ast.Call)}
        known = assigned_attributes() | {"__init__"}
        for name, node in nodes_of(ast.Attribute):
            if isinstance(node.ctx, ast.Load) and id(node) not in called:
                self.assertIn(node.attr, known, name)

    def test_is_stands_with_none_alone(self):
        for name, node in nodes_of(ast.Compare):
            for sign, right in zip(node.ops, node.comparators):
                if isinstance(sign, (ast.Is, ast.IsNot)):
                    self.assertIsInstance(right, ast.Constant, name)
                    self.assertIn(right.value, (None, True, False), name)

    def test_words_and_signs(self):
        for path in PACKAGE.glob("*.py"):
            text = path.read_text()
            for word in BARRED_WORDS:
                self.assertIsNone(re.search(rf"\b{word}\b", text), (path, word))
            self.assertNotIn("dataclass", text)
        for name, node in nodes_of(ast.Constant):
            if isinstance(node.value, str):
                self.assertNotIn("%", node.value, name)

    def test_errors_are_made_on_the_spot(self):
        for name, node in nodes_of(ast.Raise):
            self.assertIsInstance(node.exc, ast.Call, name)
            self.assertIsInstance(node.exc.func, ast.Name, name)

    def test_module_level(self):
        for name, tree in trees():
            for node in tree.body:
                plain = isinstance(node, ast.Expr) and isinstance(node.value, ast.Constant)
                self.assertTrue(
                    plain or isinstance(node, (ast.ImportFrom, ast.FunctionDef, ast.ClassDef, ast.Assign)), name,
                )
                if isinstance(node, ast.Assign):
                    ast.literal_eval(node.value)

    def test_nothing_else_in_the_folder(self):
        for path in PACKAGE.iterdir():
            self.assertTrue(path.suffix == ".py" or path.name == "__pycache__", path)


if __name__ == "__main__":
    unittest.main()
