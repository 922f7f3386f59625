import ast
import importlib
import inspect
import os
import subprocess
import sys
import unittest

import leanfigures

FOLDER = os.path.dirname(leanfigures.__file__)

# The interface: each file's functions, with their arguments.
FUNCTIONS = {
    "figures": {"is_row": ["thing"], "worth": ["row"], "weight": ["row"], "is_lean": ["row"],
                "lean": ["number"]},
    "works": {"negated": ["row"], "added": ["one", "other"], "multiplied": ["one", "other"],
              "compared": ["one", "other"], "together": ["rows"]},
    "notes": {"shown": ["row"], "read": ["text"]},
    "deeds": {"led": ["deeds"], "cost_of": ["deeds", "double", "step"],
              "least": ["number", "double", "step"]},
}

# What could tell a clock or chance, or reach a file.
OUTSIDE = ("open", "input", "print", "eval", "exec", "compile", "__import__", "hash", "id")

ASKED_ANEW = """
from leanfigures.deeds import least
from leanfigures.figures import lean
from leanfigures.notes import shown
from leanfigures.works import multiplied
for number in (0, 3, -6, 11, 95, 3 ** 300, -(7 ** 200)):
    row = lean(number)
    print(shown(row), shown(multiplied(row, row)))
    for double, step in ((1, 1), (1, 50), (50, 1), (4, 1)):
        print(*least(number, double, step))
"""


def parts():
    """Each file of the package with its syntax tree."""
    for name in sorted(os.listdir(FOLDER)):
        if name.endswith(".py"):
            with open(os.path.join(FOLDER, name), encoding="utf-8") as file:
                yield name, ast.parse(file.read())


def told_by_another_run(seed):
    """What a new run of Python tells, with hashes of its own."""
    top = os.path.dirname(FOLDER)
    around = dict(os.environ, PYTHONHASHSEED=seed, PYTHONPATH=top, PYTHONDONTWRITEBYTECODE="1")
    return subprocess.run([sys.executable, "-c", ASKED_ANEW], env=around, check=True,
                          capture_output=True).stdout


class Program(unittest.TestCase):
    def test_the_interface_is_there(self):
        for name, functions in FUNCTIONS.items():
            module = importlib.import_module("leanfigures." + name)
            for function, arguments in functions.items():
                with self.subTest(name + " " + function):
                    found = getattr(module, function)
                    self.assertTrue(inspect.isfunction(found))
                    self.assertEqual(found.__module__, "leanfigures." + name)
                    self.assertEqual(found.__name__, function)
                    self.assertEqual(list(inspect.signature(found).parameters), arguments)

    def test_only_the_package_itself_is_imported(self):
        for name, tree in parts():
            for node in ast.walk(tree):
                with self.subTest(name):
                    self.assertNotIsInstance(node, ast.Import)
                    if isinstance(node, ast.ImportFrom):
                        self.assertTrue(node.module.startswith("leanfigures."))
                        self.assertEqual(node.level, 0)

    def test_no_clock_no_chance_no_files(self):
        for name, tree in parts():
            used = {node.id for node in ast.walk(tree) if isinstance(node, ast.Name)}
            for word in OUTSIDE:
                with self.subTest(name + " " + word):
                    self.assertNotIn(word, used)

    def test_another_run_tells_the_same(self):
        first = told_by_another_run("1")
        self.assertEqual(told_by_another_run("2"), first)
        self.assertEqual(len(first.splitlines()), 35)


if __name__ == "__main__":
    unittest.main()
