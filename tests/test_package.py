"""What the document promises over all modules: the interface, and that nothing hangs on anything outside."""

import ast
import importlib
import inspect
import os
import subprocess
import sys
import unittest
from pathlib import Path

PACKAGE = Path(__file__).resolve().parent.parent / "wishlots"

INTERFACE = {
    "fractions": {"fraction": ["top", "bottom"], "plus": ["one", "two"], "minus": ["one", "two"],
                  "times": ["one", "two"], "before": ["one", "two"]},
    "tables": {"wishes_of": ["rows"], "table_of": ["rows"], "prefixes": ["wish", "shares"]},
    "eating": {"eaten": ["wishes"], "stops": ["wishes"]},
    "looks": {"rather": ["wishes", "table"], "ring_or_order": ["wishes", "table"]},
    "lots": {"lots_of": ["table"], "picked": ["lots", "number"]},
    "turns": {"deal_by": ["wishes", "order"], "by_turns": ["wishes"]},
    "book": {"Book": ["people", "things"]},
}
METHODS = {"wish": ["person", "text"], "lacking": [], "shares": ["person", "way"], "deal": ["way", "number"]}

RUN = """
from wishlots.book import Book
from wishlots.looks import ring_or_order
from wishlots.turns import by_turns
book = Book(["ada", "ben", "cleo"], ["lamp", "vase", "bell"])
book.wish("ada", "lamp vase bell")
book.wish("ben", "lamp bell vase")
book.wish("cleo", "vase lamp bell")
print([book.deal(way, (number, 7)) for way in ("eaten", "turns") for number in range(1, 7)])
wishes = [(0, 1, 2, 3), (0, 1, 2, 3), (1, 0, 2, 3), (1, 0, 2, 3)]
print(ring_or_order(wishes, by_turns(wishes)))
"""


class Interface(unittest.TestCase):
    def test_names_and_arguments(self):
        for module, names in INTERFACE.items():
            for name, arguments in names.items():
                with self.subTest(module=module, name=name):
                    found = getattr(importlib.import_module("wishlots." + module), name)
                    self.assertEqual(list(inspect.signature(found).parameters), arguments)

    def test_the_methods_of_the_book(self):
        book = importlib.import_module("wishlots.book").Book(["ada"], ["lamp"])
        for name, arguments in METHODS.items():
            with self.subTest(name):
                self.assertEqual(list(inspect.signature(getattr(book, name)).parameters), arguments)


class NothingOutside(unittest.TestCase):
    def test_only_the_packages_own_modules_are_drawn_from(self):
        for path in sorted(PACKAGE.glob("*.py")):
            for node in ast.walk(ast.parse(path.read_text())):
                self.assertNotIsInstance(node, ast.Import, path.name)
                if isinstance(node, ast.ImportFrom):
                    self.assertTrue(node.module.startswith("wishlots."), path.name)
                if isinstance(node, ast.Name):
                    self.assertNotIn(node.id, ("open", "input", "print", "id", "hash", "eval", "exec", "__import__"))

    def test_the_same_in_each_run(self):
        answers = {}
        for seed in ("0", "1", "2"):
            run = subprocess.run([sys.executable, "-c", RUN], cwd=PACKAGE.parent, capture_output=True, text=True,
                                 env=dict(os.environ, PYTHONHASHSEED=seed), check=True)
            answers[run.stdout] = True
        self.assertEqual(len(answers), 1)
        self.assertNotEqual(list(answers), [""])
