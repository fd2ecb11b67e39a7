"""What holds of the package's files: where things are defined, and what they may use."""

import ast
import inspect
import unittest
from importlib import import_module
from pathlib import Path

TOP = Path(__file__).resolve().parent.parent
PACKAGE = TOP / "slackfigures"

# Each file of the interface, with the names that it defines and their parameters.
DEFINED = {
    "errors": {
        "SlackError": None, "NoFigure": None, "NoTable": ["top", "look"], "NoLooks": None, "NoRoom": None,
        "Spoilt": ["step"], "NoText": None, "NoRow": None, "NoMore": None, "NoWork": None, "NoCell": None,
        "NoDeed": ["number"],
    },
    "kinds": {"is_kind": ["thing"], "bits_of": ["base"]},
    "rows": {"worth": ["kind", "row"], "how_many": ["kind", "count", "number"]},
    "turning": {"held_worth": ["base", "held"], "Turner": ["base"]},
    "pairs": {
        "pair_worth": ["width", "pair"], "look_of": ["width", "pair", "low"],
        "three_in_two": ["width", "one", "other", "third"],
    },
    "cells": {
        "are_looks": ["kind", "looks"], "half_of": ["kind", "looks"], "is_met": ["kind", "looks", "sight", "cell"],
        "good_figures": ["kind", "looks", "sight", "cell"],
    },
    "points": {
        "is_point": ["kind", "looks", "point"], "cells_of": ["kind", "looks", "sight", "point"],
        "serves": ["kind", "figure", "point"], "spoiler": ["kind", "looks", "sight", "cell", "figure"],
        "two_points": ["kind", "looks", "sight", "cell"],
    },
    "tables": {
        "is_table": ["kind", "looks", "thing"], "entry": ["kind", "looks", "table", "cell"],
        "first_fault": ["kind", "looks", "sight", "table"], "plain_table": ["kind", "looks", "sight"],
    },
    "quotients": {
        "room": ["kind", "x", "divisor"], "divide": ["kind", "looks", "table", "x", "divisor", "many"],
        "quotient": ["kind", "looks", "table", "x", "divisor"], "spoilt_by": ["kind", "looks", "table"],
    },
    "tworows": {
        "divide_rows": ["kind", "looks", "table", "x", "divisor", "many"],
        "trail": ["kind", "looks", "table", "x", "divisor", "many"],
    },
    "least": {"least_looks": ["kind", "sight"]},
    "stands": {
        "stands": ["kind", "looks", "table", "divisor"], "first_showing": ["kind", "looks", "table", "wide", "cell"],
    },
    "roots": {
        "root_good": ["kind", "looks", "fresh", "cell"], "first_root_fault": ["kind", "looks", "fresh", "table"],
        "root_table": ["kind", "looks", "fresh"], "root": ["kind", "looks", "fresh", "table", "number"],
        "root_steps": ["kind", "looks", "fresh", "table", "number"],
    },
    "texts": {"show_table": ["table"], "read_table": ["kind", "looks", "text"]},
    "desk": {"Desk": []},
    "mends": {"mended": ["kind", "looks", "sight", "table"]},
    "summers": {"Summer": ["kind"]},
    "bench": {"Bench": ["kind", "looks", "table"], "replayed": ["kind", "looks", "table", "deeds"]},
    "deeds": {"show_deeds": ["deeds"], "read_deeds": ["text"]},
}

# Each class of the interface that has methods, with their parameters.
METHODS = {
    ("turning", "Turner"): {"put": ["self", "figure"], "held": ["self"], "below": ["self"]},
    ("desk", "Desk"): {"say": ["self", "row"]},
    ("summers", "Summer"): {"put": ["self", "one", "other"], "end": ["self"], "told": ["self"]},
    ("bench", "Bench"): {
        "begin": ["self", "x", "divisor", "many"], "begin_rows": ["self", "x", "divisor", "many"], "go": ["self", "number"],
        "put": ["self", "top", "look", "figure"], "row": ["self", "number"], "rest": ["self", "number"], "looked": ["self"],
        "wrong": ["self", "sight"], "entries": ["self"], "deeds": ["self"],
    },
}


def trees():
    return [(path, ast.parse(path.read_text())) for path in sorted(PACKAGE.glob("*.py"))]


class TestPackage(unittest.TestCase):
    def test_it_is_a_package(self):
        self.assertTrue((PACKAGE / "__init__.py").is_file())

    def test_each_name_is_defined_in_its_file(self):
        for module, names in DEFINED.items():
            tree = ast.parse((PACKAGE / f"{module}.py").read_text())
            defined = [node.name for node in tree.body if isinstance(node, (ast.FunctionDef, ast.ClassDef))]
            for name in names:
                self.assertEqual(defined.count(name), 1, (module, name))

    def test_arguments_are_taken_by_their_places(self):
        for module, names in DEFINED.items():
            for name, parameters in names.items():
                if parameters is not None:
                    made = inspect.signature(getattr(import_module(f"slackfigures.{module}"), name))
                    self.assertEqual(list(made.parameters), parameters, (module, name))

    def test_each_method_is_defined_in_its_class(self):
        for (module, name), methods in METHODS.items():
            made = vars(getattr(import_module(f"slackfigures.{module}"), name))
            for method, parameters in methods.items():
                self.assertIn(method, made, (module, name))
                self.assertEqual(list(inspect.signature(made[method]).parameters), parameters, (name, method))

    def test_no_clock_no_chance_no_files(self):
        # What needs one of them needs an import, or one of these builtins.
        for path, tree in trees():
            for node in ast.walk(tree):
                self.assertNotIsInstance(node, ast.Import, path)
                if isinstance(node, ast.ImportFrom):
                    self.assertEqual(node.module.split(".")[0], "slackfigures", path)
                if isinstance(node, ast.Name):
                    self.assertNotIn(node.id, ("open", "input", "print", "exec", "eval", "hash", "id"), path)

    def test_whole_numbers_only(self):
        for path, tree in trees():
            for node in ast.walk(tree):
                self.assertNotIsInstance(node, ast.Div, path)
                if isinstance(node, ast.Constant):
                    self.assertNotIsInstance(node.value, (float, complex), path)

    def test_no_powers(self):
        for path, tree in trees():
            for node in ast.walk(tree):
                if isinstance(node, ast.BinOp):
                    self.assertNotIsInstance(node.op, ast.Pow, path)

    def test_sizes(self):
        for path, tree in trees():
            lines = path.read_text().split("\n")
            self.assertLess(len(lines), 400, path)
            self.assertLessEqual(max(len(line) for line in lines), 120, path)
            for node in ast.walk(tree):
                if isinstance(node, ast.FunctionDef):
                    self.assertLessEqual(node.end_lineno - node.lineno + 1, 40, (path, node.name))

    def test_plain_characters(self):
        for path, tree in trees():
            self.assertTrue(all(sign == "\n" or " " <= sign <= "~" for sign in path.read_text()), path)


if __name__ == "__main__":
    unittest.main()
