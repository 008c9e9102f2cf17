"""Tests of fewpans.plans: promises 0.1, 0.2 (c), (d) and (e), 0.3, 4.1 and 4.2."""

import copy
import unittest

from helper import (
    KINDS,
    even,
    great_trees,
    joins_of,
    least_shelving,
    left_chain,
    loose_trees,
    made_of_tuples,
    number,
    ordered_trees,
    parts_of,
    plain_need,
    plain_run,
    right_chain,
)

from fewpans.codes import run, shelved
from fewpans.needs import full, need
from fewpans.plans import cores, plan, spills
from fewpans.trees import turned

PAIR = ("plus", number(1), number(2))
FOUR = ("less", PAIR, PAIR)


def plain_cores(tree, pans):
    """By the words of 4.2."""
    found = [
        address
        for address, part in parts_of(tree).items()
        if part[0] != "number" and plain_need(part[1]) >= pans and plain_need(part[2]) >= pans
    ]
    return tuple(sorted(found))


class Plan(unittest.TestCase):
    def assert_plan(self, tree, pans):
        """A code that works the tree off and shelves as often as spills tells, None for a join with one pan."""
        code = plan(tree, pans)
        if pans == 1 and tree[0] != "number":
            self.assertIsNone(code)
            return
        self.assertIsInstance(code, tuple)
        held = run(tree, code, pans)
        self.assertIsNotNone(held)
        self.assertEqual(held, plain_run(tree, code, pans))
        self.assertEqual(held[0], "")
        self.assertEqual(shelved(code), len(plain_cores(tree, pans)))
        self.assertEqual(shelved(code), len([deed for deed in code if deed[0] == "shelve"]))
        if pans > 1:
            self.assertEqual(shelved(code), spills(tree, pans))

    def test_a_number(self):
        for n in (-1000, 0, 1000):
            for pans in range(1, 9):
                self.assert_plan(number(n), pans)
                self.assertEqual(shelved(plan(number(n), pans)), 0)

    def test_a_join_with_one_pan(self):
        for tree in ordered_trees(6) + great_trees(50):
            if tree[0] != "number":
                self.assertIsNone(plan(tree, 1))

    def test_two_numbers(self):
        for kind in KINDS:
            for pans in range(2, 9):
                self.assert_plan((kind, number(1), number(2)), pans)

    def test_trees_of_all_shapes(self):
        for tree in ordered_trees(7) + loose_trees(16):
            for pans in range(1, 9):
                self.assert_plan(tree, pans)

    def test_no_code_shelves_less_often(self):
        for tree in ordered_trees(6) + loose_trees(8):
            for pans in (2, 3, 4):
                found = least_shelving(tree, pans, 4)
                self.assertEqual(shelved(plan(tree, pans)), found)
                self.assertEqual(spills(tree, pans), found)

    def test_no_code_does_with_one_pan(self):
        for tree in ordered_trees(4):
            found = least_shelving(tree, 1, 3)
            self.assertEqual(found, 0 if tree[0] == "number" else None)
            self.assertEqual(plan(tree, 1) is None, found is None)

    def test_none_shelves_with_as_many_pans_as_needed(self):
        for tree in ordered_trees(7) + great_trees(50):
            pans = need(tree)
            self.assertEqual(shelved(plan(tree, pans)), 0)
            if 1 < pans - 1:
                self.assertGreater(shelved(plan(tree, pans - 1)), 0)

    def test_somewhat_beyond_the_bounds(self):
        self.assert_plan(even(16), 9)
        self.assert_plan(even(16), 20)
        self.assert_plan(even(32), 2)
        self.assert_plan(left_chain(30), 2)
        self.assertIsNone(plan(number(4), 0))
        self.assertIsNone(plan(PAIR, 0))


class Spills(unittest.TestCase):
    def test_known_ones(self):
        for tree in (number(4), PAIR, left_chain(16), right_chain(16)):
            for pans in range(2, 9):
                self.assertEqual(spills(tree, pans), 0)
        for pans, times in ((2, 7), (3, 3), (4, 1), (5, 0), (6, 0), (7, 0), (8, 0)):
            self.assertEqual(spills(even(16), pans), times)
        self.assertEqual(spills(FOUR, 2), 1)
        self.assertEqual(spills(FOUR, 3), 0)

    def test_parts_that_need_more_than_there_are_pans(self):
        self.assertEqual(spills(("plus", FOUR, PAIR), 2), 2)
        self.assertEqual(spills(("plus", FOUR, FOUR), 2), 3)
        self.assertEqual(spills(("plus", FOUR, number(1)), 2), 1)

    def test_as_many_as_cores(self):
        for tree in ordered_trees(7) + loose_trees(16):
            for pans in range(2, 9):
                self.assertEqual(spills(tree, pans), len(plain_cores(tree, pans)))

    def test_a_pan_more_never_makes_them_more(self):
        for tree in ordered_trees(8) + great_trees(25):
            told = [spills(tree, pans) for pans in range(2, 10)]
            self.assertEqual(told, sorted(told, reverse=True))

    def test_joined_trees(self):
        trees = ordered_trees(4) + (even(8), left_chain(7), right_chain(8))
        for one in trees:
            for other in trees:
                for pans in range(2, 9):
                    both = need(one) >= pans and need(other) >= pans
                    told = spills(("times", one, other), pans)
                    self.assertEqual(told, spills(one, pans) + spills(other, pans) + both)

    def test_none_just_where_no_full_tree_shows_that_more_pans_are_needed(self):
        for tree in ordered_trees(7) + great_trees(60):
            for pans in range(2, 9):
                self.assertEqual(spills(tree, pans) == 0, full(tree, pans) is None)

    def test_turned(self):
        for tree in ordered_trees(6) + great_trees(300):
            for address in joins_of(tree):
                other = turned(tree, address)
                for pans in range(2, 7):
                    self.assertEqual(spills(other, pans), spills(tree, pans))
                    self.assertEqual(shelved(plan(other, pans)), shelved(plan(tree, pans)))
                    self.assertEqual(run(other, plan(other, pans), pans)[0], "")


class Cores(unittest.TestCase):
    def test_known_ones(self):
        self.assertEqual(cores(number(4), 2), ())
        self.assertEqual(cores(PAIR, 2), ())
        self.assertEqual(cores(FOUR, 2), ("",))
        self.assertEqual(cores(FOUR, 3), ())
        self.assertEqual(cores(even(8), 2), ("", "l", "r"))
        self.assertEqual(cores(even(8), 3), ("",))
        self.assertEqual(cores(even(16), 2), ("", "l", "ll", "lr", "r", "rl", "rr"))
        self.assertEqual(cores(even(16), 3), ("", "l", "r"))
        self.assertEqual(cores(even(16), 4), ("",))
        self.assertEqual(cores(even(16), 5), ())

    def test_not_at_the_top(self):
        tree = ("plus", number(5), ("times", ("less", number(6), FOUR), number(7)))
        self.assertEqual(cores(tree, 2), ("rlr",))

    def test_parts_that_need_more_than_there_are_pans(self):
        self.assertEqual(cores(("plus", FOUR, PAIR), 2), ("", "l"))
        self.assertEqual(cores(("plus", PAIR, FOUR), 2), ("", "r"))

    def test_trees_of_all_shapes(self):
        for tree in ordered_trees(8) + loose_trees(16):
            for pans in range(2, 9):
                answer = cores(tree, pans)
                self.assertIsInstance(answer, tuple)
                self.assertEqual(answer, plain_cores(tree, pans))
                self.assertEqual(list(answer), sorted(set(answer)))
                self.assertEqual(len(answer), spills(tree, pans))

    def test_somewhat_beyond_the_bounds(self):
        self.assertEqual(cores(even(16), 9), ())
        self.assertEqual(cores(even(32), 5), ("",))


class TheSearchItself(unittest.TestCase):
    """The search must find what can be done, or the tests above would show nothing."""

    def test_known_ones(self):
        self.assertEqual(least_shelving(number(4), 1, 0), 0)
        self.assertIsNone(least_shelving(PAIR, 1, 3))
        self.assertEqual(least_shelving(PAIR, 2, 0), 0)
        self.assertIsNone(least_shelving(FOUR, 2, 0))
        self.assertEqual(least_shelving(FOUR, 2, 1), 1)
        self.assertEqual(least_shelving(FOUR, 3, 1), 0)


class TheWhole(unittest.TestCase):
    def test_nothing_is_changed_and_the_same_is_told_again(self):
        for tree in great_trees(400):
            before = copy.deepcopy(tree)
            first = ask(tree)
            ask(number(4))
            self.assertEqual(ask(tree), first)
            self.assertEqual(ask(before), first)
            self.assertEqual(tree, before)

    def test_kinds_of_answers(self):
        for tree in ordered_trees(5) + great_trees(400):
            self.assertIs(made_of_tuples(ask(tree)), True)

    def test_a_code_or_what_shows_that_there_is_none(self):
        for tree in ordered_trees(6):
            for pans in range(2, 9):
                code = plan(tree, pans)
                if need(tree) <= pans:
                    self.assertEqual((shelved(code), full(tree, pans), cores(tree, pans)), (0, None, ()))
                else:
                    self.assertIsNotNone(full(tree, pans))
                    self.assertEqual(shelved(code), len(cores(tree, pans)))


def ask(tree):
    """All that can be asked of a tree for pans from 2 to 8."""
    return tuple((plan(tree, pans), spills(tree, pans), cores(tree, pans)) for pans in range(2, 9))
