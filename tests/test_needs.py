"""Tests of fewpans.needs: promises 0.2 (b), (d) and (e), 0.3, 3.1 and 3.2."""

import copy
import itertools
import unittest

from helper import (
    KINDS,
    even,
    great_trees,
    joins_of,
    least_shelving,
    left_chain,
    loose_trees,
    made_of_tuples,
    number,
    ordered_trees,
    parts_of,
    plain_need,
    right_chain,
)

from fewpans.codes import run, shelved
from fewpans.needs import full, need
from fewpans.plans import plan
from fewpans.trees import turned

HEIGHTS = range(9)


def searched_need(tree):
    """The least number of pans with which a code without shelving does, found by trying."""
    return next(pans for pans in itertools.count(1) if least_shelving(tree, pans, 0) == 0)


def is_full(thing, height, addresses):
    """Whether the thing is a full tree of this height within a tree with these addresses, by the words of 3.2."""
    if not isinstance(thing, tuple) or thing == () or thing[0] not in addresses:
        return False
    if height == 0:
        return len(thing) == 1
    if len(thing) != 3:
        return False
    address, first, second = thing
    if not is_full(first, height - 1, addresses) or not is_full(second, height - 1, addresses):
        return False
    return first[0].startswith(address + "l") and second[0].startswith(address + "r")


def highest_full(tree):
    """How high a full tree can be within the tree, found from below for each part."""
    if tree[0] == "number":
        return 0
    one, other = highest_full(tree[1]), highest_full(tree[2])
    return max(one, other, min(one, other) + 1)


class Need(unittest.TestCase):
    def test_a_number(self):
        for n in (-1000, 0, 1, 1000):
            self.assertEqual(need(number(n)), 1)

    def test_two_numbers(self):
        for kind in KINDS:
            self.assertEqual(need((kind, number(1), number(2))), 2)

    def test_chains(self):
        for numbers in range(2, 17):
            self.assertEqual(need(left_chain(numbers)), 2)
            self.assertEqual(need(right_chain(numbers)), 2)

    def test_even_trees(self):
        for pans, numbers in ((1, 1), (2, 2), (3, 4), (4, 8), (5, 16)):
            self.assertEqual(need(even(numbers)), pans)
        for pans, numbers in ((2, 3), (3, 7), (4, 15)):
            self.assertEqual(need(even(numbers)), pans)

    def test_equal_parts_are_worked_off_each(self):
        pair = ("plus", number(1), number(1))
        self.assertEqual(need(("plus", pair, pair)), 3)

    def test_against_a_search(self):
        for tree in ordered_trees(6) + loose_trees(8):
            self.assertEqual(need(tree), searched_need(tree))

    def test_of_a_joined_tree(self):
        for tree in ordered_trees(8) + loose_trees(13) + great_trees(7):
            self.assertEqual(need(tree), plain_need(tree))
            if tree[0] != "number":
                one, other = need(tree[1]), need(tree[2])
                self.assertEqual(need(tree), one + 1 if one == other else max(one, other))

    def test_of_any_two_trees_joined(self):
        trees = ordered_trees(4) + (even(8), left_chain(8), right_chain(7))
        for kind, one, other in itertools.product(KINDS, trees, trees):
            needs = (need(one), need(other))
            self.assertEqual(need((kind, one, other)), max(needs) + (needs[0] == needs[1]))

    def test_a_plan_does_with_as_many_without_shelving(self):
        for tree in ordered_trees(7) + great_trees(50):
            pans = need(tree)
            code = plan(tree, pans)
            self.assertEqual(run(tree, code, pans)[0], "")
            self.assertEqual(shelved(code), 0)

    def test_turned(self):
        for tree in ordered_trees(6) + great_trees(200):
            for address in joins_of(tree):
                self.assertEqual(need(turned(tree, address)), need(tree))

    def test_somewhat_beyond_the_bounds(self):
        self.assertEqual(need(even(32)), 6)
        self.assertEqual(need(left_chain(30)), 2)


class Full(unittest.TestCase):
    def assert_full(self, tree, height):
        """A full tree of this height just where there is one, and just where so many pans don't do."""
        answer = full(tree, height)
        there = highest_full(tree) >= height
        self.assertEqual(answer is not None, there)
        if there:
            self.assertIs(is_full(answer, height, parts_of(tree)), True)
        self.assertEqual(there, need(tree) > height)

    def test_height_0(self):
        for tree in ordered_trees(5):
            answer = full(tree, 0)
            self.assertEqual(len(answer), 1)
            self.assertIn(answer[0], parts_of(tree))
        self.assertEqual(full(number(4), 0), ("",))

    def test_a_number(self):
        for height in range(1, 9):
            self.assertIsNone(full(number(4), height))

    def test_a_pair(self):
        for kind in KINDS:
            tree = (kind, number(1), number(2))
            self.assertEqual(full(tree, 1), ("", ("l",), ("r",)))
            self.assertIsNone(full(tree, 2))

    def test_even_trees(self):
        self.assertEqual(full(even(4), 2), ("", ("l", ("ll",), ("lr",)), ("r", ("rl",), ("rr",))))
        for height, numbers in ((1, 2), (2, 4), (3, 8), (4, 16)):
            self.assert_full(even(numbers), height)
            self.assertIsNotNone(full(even(numbers), height))
            self.assertIsNone(full(even(numbers), height + 1))

    def test_not_at_the_top(self):
        pair = ("plus", number(1), number(2))
        deep = ("less", ("times", number(3), ("plus", pair, number(4))), pair)
        tree = ("plus", number(5), ("times", deep, number(6)))
        self.assertIs(is_full(full(tree, 2), 2, parts_of(tree)), True)
        self.assertEqual(full(tree, 2)[0], "rl")
        self.assertIsNone(full(tree, 3))

    def test_chains(self):
        for numbers in range(2, 17):
            for tree in (left_chain(numbers), right_chain(numbers)):
                self.assert_full(tree, 1)
                self.assertIsNotNone(full(tree, 1))
                self.assertIsNone(full(tree, 2))

    def test_trees_of_all_shapes(self):
        for tree in ordered_trees(8) + loose_trees(16):
            for height in HEIGHTS:
                self.assert_full(tree, height)

    def test_either_a_code_or_a_full_tree(self):
        for tree in ordered_trees(5) + loose_trees(7):
            for pans in range(1, 9):
                has_code = least_shelving(tree, pans, 0) == 0
                self.assertEqual(has_code, full(tree, pans) is None)

    def test_either_a_plan_without_shelving_or_a_full_tree(self):
        for tree in ordered_trees(7) + great_trees(60):
            for pans in range(1, 9):
                code = plan(tree, pans)
                has_code = code is not None and shelved(code) == 0
                self.assertEqual(has_code, full(tree, pans) is None)

    def test_turned(self):
        for tree in ordered_trees(6) + great_trees(300):
            for address in joins_of(tree):
                other = turned(tree, address)
                for height in range(6):
                    self.assertEqual(full(other, height) is None, full(tree, height) is None)
                    self.assert_full(other, height)

    def test_somewhat_beyond_the_bounds(self):
        for height in (9, 10, 50):
            self.assertIsNone(full(even(16), height))
        self.assertIs(is_full(full(even(32), 5), 5, parts_of(even(32))), True)
        self.assertIsNone(full(left_chain(30), 8))
        self.assertIsNone(full(even(16), -1))


class TheCheckItself(unittest.TestCase):
    """is_full must not take what is no full tree, or the tests above would show nothing."""

    def test_things_that_are_none(self):
        addresses = parts_of(even(4))
        good = ("", ("l", ("ll",), ("lr",)), ("r", ("rl",), ("rr",)))
        self.assertIs(is_full(good, 2, addresses), True)
        self.assertIs(is_full(good, 1, addresses), False)
        self.assertIs(is_full(good, 3, addresses), False)
        for bad in (
            ("", ("r",), ("l",)),
            ("", ("l",), ("l",)),
            ("", ("",), ("r",)),
            ("l", ("l",), ("lr",)),
            ("x", ("l",), ("r",)),
            ("", ("lll",), ("r",)),
            ("", ("l",)),
            ("",),
            ["", ("l",), ("r",)],
            None,
        ):
            self.assertIs(is_full(bad, 1, addresses), False)


class TheWhole(unittest.TestCase):
    def test_nothing_is_changed_and_the_same_is_told_again(self):
        for tree in great_trees(400):
            before = copy.deepcopy(tree)
            first = ask(tree)
            ask(number(4))
            self.assertEqual(ask(tree), first)
            self.assertEqual(ask(before), first)
            self.assertEqual(tree, before)

    def test_kinds_of_answers(self):
        for tree in ordered_trees(5) + great_trees(400):
            self.assertIs(made_of_tuples(ask(tree)), True)


def ask(tree):
    """All that can be asked of the pans needed."""
    return (need(tree),) + tuple(full(tree, height) for height in HEIGHTS)
