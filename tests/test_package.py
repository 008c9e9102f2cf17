"""Tests of what the package shows: the interface of stage 1, and that nothing is refused."""

import inspect
import unittest

import fewpans
import fewpans.errors
import fewpans.trees

PARAMETERS = {
    "is_tree": ["thing"],
    "worth": ["tree"],
    "part_at": ["tree", "address"],
    "turned": ["tree", "address"],
}


class Interface(unittest.TestCase):
    def test_names_and_arguments(self):
        for name, parameters in PARAMETERS.items():
            function = getattr(fewpans.trees, name)
            self.assertEqual(list(inspect.signature(function).parameters), parameters)

    def test_arguments_by_name(self):
        tree = ("less", ("number", 1), ("number", 2))
        self.assertIs(fewpans.trees.is_tree(thing=tree), True)
        self.assertEqual(fewpans.trees.worth(tree=tree), -1)
        self.assertEqual(fewpans.trees.part_at(tree=tree, address="r"), ("number", 2))
        self.assertEqual(fewpans.trees.turned(tree=tree, address=""), ("less", ("number", 2), ("number", 1)))

    def test_nothing_is_refused(self):
        classes = inspect.getmembers(fewpans.errors, inspect.isclass)
        self.assertEqual(classes, [])
