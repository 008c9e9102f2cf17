"""Tests of what the package shows: its interface, and that nothing is refused."""

import importlib
import inspect
import unittest

import fewpans.errors
from fewpans.codes import numbers, run, shelved
from fewpans.needs import full, need
from fewpans.plans import cores, plan, spills
from fewpans.trees import is_tree, part_at, turned, worth

INTERFACE = {
    "trees": {
        "is_tree": ["thing"],
        "worth": ["tree"],
        "part_at": ["tree", "address"],
        "turned": ["tree", "address"],
    },
    "codes": {
        "run": ["tree", "code", "pans"],
        "numbers": ["tree", "code", "pans"],
        "shelved": ["code"],
    },
    "needs": {
        "need": ["tree"],
        "full": ["tree", "height"],
    },
    "plans": {
        "plan": ["tree", "pans"],
        "spills": ["tree", "pans"],
        "cores": ["tree", "pans"],
    },
}


class Interface(unittest.TestCase):
    def test_names_and_arguments(self):
        for module, functions in INTERFACE.items():
            found = importlib.import_module("fewpans." + module)
            for name, parameters in functions.items():
                function = getattr(found, name)
                self.assertEqual(list(inspect.signature(function).parameters), parameters)

    def test_arguments_by_name(self):
        tree = ("less", ("number", 1), ("number", 2))
        code = (("put", 0, "l"), ("shelve", 0, 0))
        self.assertIs(is_tree(thing=tree), True)
        self.assertEqual(worth(tree=tree), -1)
        self.assertEqual(part_at(tree=tree, address="r"), ("number", 2))
        self.assertEqual(turned(tree=tree, address=""), ("less", ("number", 2), ("number", 1)))
        self.assertEqual(run(tree=tree, code=code, pans=2), ("l", None))
        self.assertEqual(numbers(tree=tree, code=code, pans=2), (1, None))
        self.assertEqual(shelved(code=code), 1)
        self.assertEqual(need(tree=tree), 2)
        self.assertEqual(full(tree=tree, height=1), ("", ("l",), ("r",)))
        self.assertEqual(run(tree, plan(tree=tree, pans=2), 2)[0], "")
        self.assertEqual(spills(tree=tree, pans=2), 0)
        self.assertEqual(cores(tree=tree, pans=2), ())

    def test_nothing_is_refused(self):
        classes = inspect.getmembers(fewpans.errors, inspect.isclass)
        self.assertEqual(classes, [])
