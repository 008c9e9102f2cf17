"""Tests of fewpans.trees: promises 0.3, 0.4, 0.5, 1.1 and 1.2."""

import copy
import itertools
import unittest

from helper import KINDS, even, joins_of, left_chain, made_of_tuples, number, right_chain

from fewpans.trees import is_tree, part_at, turned, worth


def plus(one, other):
    return ("plus", one, other)


def less(one, other):
    return ("less", one, other)


def times(one, other):
    return ("times", one, other)


SHAPES = (left_chain, right_chain, even)

# (3 - 5) * ((2 + 4) - 10), each part with an address of its own.
SAMPLE = times(
    less(number(3), number(5)),
    less(plus(number(2), number(4)), number(10)),
)

SAMPLE_PARTS = {
    "": SAMPLE,
    "l": less(number(3), number(5)),
    "ll": number(3),
    "lr": number(5),
    "r": less(plus(number(2), number(4)), number(10)),
    "rl": plus(number(2), number(4)),
    "rll": number(2),
    "rlr": number(4),
    "rr": number(10),
}


def small_trees():
    """All trees of up to three numbers, the numbers told apart by their places."""
    ones = [number(n) for n in (-2, 0, 3)]
    twos = [(kind, one, other) for kind in KINDS for one in ones for other in ones]
    threes = [(kind, two, one) for kind in KINDS for two in twos for one in ones]
    threes += [(kind, one, two) for kind in KINDS for two in twos for one in ones]
    return ones + twos + threes


class Trees(unittest.TestCase):
    def assert_tree(self, thing):
        self.assertIs(is_tree(thing), True)

    def assert_no_tree(self, thing):
        """Neither by itself nor as a part of a join."""
        self.assertIs(is_tree(thing), False)
        for kind in KINDS:
            self.assertIs(is_tree((kind, thing, number(1))), False)
            self.assertIs(is_tree((kind, number(1), thing)), False)
            self.assertIs(is_tree(plus(number(1), (kind, number(1), thing))), False)


class IsTree(Trees):
    def test_numbers(self):
        for n in (0, 1, -1, 7, 999, -999):
            self.assert_tree(number(n))

    def test_the_bounds_of_numbers(self):
        for n in (-1000, 1000):
            self.assert_tree(number(n))
            self.assert_tree(plus(number(n), number(-n)))
        for n in (-1001, 1001, 10**30, -(10**30)):
            self.assert_no_tree(number(n))

    def test_joins_of_each_kind(self):
        for kind in KINDS:
            self.assert_tree((kind, number(1), number(2)))
            for inner in KINDS:
                self.assert_tree((kind, (inner, number(1), number(2)), number(3)))
                self.assert_tree((kind, number(3), (inner, number(1), number(2))))
        self.assert_tree(SAMPLE)

    def test_all_small_trees(self):
        for tree in small_trees():
            self.assert_tree(tree)

    def test_up_to_sixteen_numbers(self):
        for shape in SHAPES:
            for numbers in range(1, 17):
                self.assert_tree(shape(numbers))

    def test_more_than_sixteen_numbers(self):
        for shape in SHAPES:
            for numbers in (17, 18, 20, 31, 32):
                self.assertIs(is_tree(shape(numbers)), False)

    def test_sixteen_numbers_however_they_are_split(self):
        for first in range(1, 16):
            for shape, other_shape in itertools.product(SHAPES, repeat=2):
                self.assert_tree(less(shape(first), other_shape(16 - first)))
                self.assertIs(is_tree(less(shape(first), other_shape(17 - first))), False)

    def test_numbers_that_are_no_whole_numbers(self):
        for n in (True, False, None, "", "1", "number", [], [1], (), (1,), number(1)):
            self.assert_no_tree(("number", n))

    def test_lists_in_the_place_of_tuples(self):
        self.assert_no_tree(["number", 1])
        self.assert_no_tree(["plus", number(1), number(2)])
        self.assert_no_tree(["times", ["number", 1], ["number", 2]])
        self.assert_no_tree(plus(["number", 1], number(2)))
        self.assert_no_tree(plus(number(1), ["number", 2]))
        self.assert_no_tree(plus(number(1), ["less", number(1), number(2)]))

    def test_a_list_anywhere_within(self):
        for address, part in SAMPLE_PARTS.items():
            self.assert_no_tree(replaced(SAMPLE, address, list(part)))

    def test_other_words_in_front(self):
        words = ("", "minus", "Plus", "PLUS", "plus ", " plus", "pluss", "plu", "+", "number", "l", "join", "times\n")
        for word in words:
            self.assert_no_tree((word, number(1), number(2)))
        for word in ("", "Number", "numbers", "number ", "n", "plus", "less", "times"):
            self.assert_no_tree((word, 1))

    def test_other_things_in_front(self):
        fronts = (None, True, False, 0, 1, (), [], ("plus",), ["plus"], ("number",), ["number"], number(1))
        for front in fronts:
            self.assert_no_tree((front, 1))
            self.assert_no_tree((front, number(1), number(2)))

    def test_too_few_or_too_many_places(self):
        self.assert_no_tree(("number",))
        self.assert_no_tree(("number", 1, 2))
        self.assert_no_tree(("number", 1, None))
        self.assert_no_tree(("number", number(1), number(2)))
        for kind in KINDS:
            self.assert_no_tree((kind,))
            self.assert_no_tree((kind, 1))
            self.assert_no_tree((kind, number(1)))
            self.assert_no_tree((kind, number(1), number(2), number(3)))
            self.assert_no_tree((kind, number(1), number(2), None))

    def test_parts_that_are_no_trees(self):
        for part in (1, True, None, "", "number", (), []):
            for kind in KINDS:
                self.assert_no_tree((kind, part, number(1)))
                self.assert_no_tree((kind, number(1), part))
                self.assert_no_tree((kind, part, part))

    def test_things_that_are_no_tuples(self):
        for thing in (0, 1, -1, 1000, True, False, None, "", "number", "plus", "ab", "abc", (), [], [[]], ((),)):
            self.assert_no_tree(thing)

    def test_deep_tuples_and_lists(self):
        for depth in (15, 29, 30, 31, 35):
            nested_tuple = ()
            nested_list = []
            mixed = "x"
            for level in range(depth):
                nested_tuple = (nested_tuple,)
                nested_list = [nested_list]
                mixed = [mixed, 1] if level % 2 else (mixed, None, "l")
            self.assert_no_tree(nested_tuple)
            self.assert_no_tree(nested_list)
            self.assert_no_tree(mixed)

    def test_deep_joins(self):
        for depth in (16, 29, 30, 31, 35):
            for joined in (
                lambda tree: plus(tree, number(1)),
                lambda tree: plus(number(1), tree),
                lambda tree: ["plus", tree, number(1)],
                lambda tree: ["plus", number(1), tree],
                lambda tree: ("number", tree),
                lambda tree: ["number", tree],
                lambda tree: (tree, 1),
                lambda tree: (tree, number(1), number(2)),
            ):
                tree = number(1)
                for _ in range(depth):
                    tree = joined(tree)
                self.assertIs(is_tree(tree), False)

    def test_one_tuple_in_many_places(self):
        # Written out, this would be a tree of more than a thousand million numbers.
        tree = number(1)
        for depth in range(1, 33):
            tree = plus(tree, tree)
            self.assertIs(is_tree(tree), depth <= 4)

    def test_a_fault_behind_many_good_parts(self):
        for shape in SHAPES:
            self.assert_no_tree(plus(shape(13), number(True)))
            self.assert_no_tree(plus(number(1001), shape(13)))


def replaced(tree, address, part):
    if address == "":
        return part
    if address[0] == "l":
        return (tree[0], replaced(tree[1], address[1:], part), tree[2])
    return (tree[0], tree[1], replaced(tree[2], address[1:], part))


class Worth(unittest.TestCase):
    def assert_worth(self, tree, n):
        answer = worth(tree)
        self.assertEqual(answer, n)
        self.assertIs(isinstance(answer, int) and not isinstance(answer, bool), True)

    def test_numbers(self):
        for n in (0, 1, -1, 1000, -1000):
            self.assert_worth(number(n), n)

    def test_each_kind(self):
        for a in (-1000, -3, -1, 0, 1, 4, 1000):
            for b in (-1000, -7, -1, 0, 1, 5, 1000):
                self.assert_worth(plus(number(a), number(b)), a + b)
                self.assert_worth(less(number(a), number(b)), a - b)
                self.assert_worth(times(number(a), number(b)), a * b)

    def test_less_in_its_order(self):
        self.assert_worth(less(number(3), number(5)), -2)
        self.assert_worth(less(number(5), number(3)), 2)
        self.assert_worth(less(less(number(10), number(4)), number(3)), 3)
        self.assert_worth(less(number(10), less(number(4), number(3))), 9)

    def test_nested(self):
        self.assert_worth(SAMPLE, 8)
        self.assert_worth(plus(times(number(2), number(3)), number(4)), 10)
        self.assert_worth(times(number(2), plus(number(3), number(4))), 14)
        self.assert_worth(times(less(number(-2), number(-5)), plus(number(0), number(-6))), -18)
        self.assert_worth(less(times(number(0), number(-9)), times(number(-3), number(-3))), -9)

    def test_sixteen_numbers(self):
        tree = number(1000)
        for _ in range(15):
            tree = times(tree, number(1000))
        self.assert_worth(tree, 10**48)
        self.assert_worth(even(16), 112)

    def test_somewhat_beyond_the_bounds(self):
        self.assert_worth(even(17), 119)
        self.assert_worth(less(number(-1001), number(2000)), -3001)
        tree = number(0)
        for n in range(30):
            tree = less(number(n), tree)
        self.assert_worth(tree, 15)


class PartAt(unittest.TestCase):
    def test_every_part(self):
        for address, part in SAMPLE_PARTS.items():
            self.assertEqual(part_at(SAMPLE, address), part)

    def test_every_text_of_l_and_r(self):
        for length in range(6):
            for steps in itertools.product("lr", repeat=length):
                address = "".join(steps)
                self.assertEqual(part_at(SAMPLE, address), SAMPLE_PARTS.get(address))

    def test_the_empty_address(self):
        for tree in small_trees():
            self.assertEqual(part_at(tree, ""), tree)

    def test_beyond_a_number(self):
        for n in (-1000, 0, 1000):
            for address in ("l", "r", "ll", "lr", "rl", "rr", "l" * 40):
                self.assertIsNone(part_at(number(n), address))
        for address in ("lll", "llr", "lrl", "lrr", "rrl", "rlll", "rlrr", "rlrrrrrrrrrrrr"):
            self.assertIsNone(part_at(SAMPLE, address))

    def test_other_signs(self):
        for sign in ("x", "L", "R", " ", "\n", "0", "1", "2", "-", "number", "\u00e9"):
            for address in SAMPLE_PARTS:
                self.assertIsNone(part_at(SAMPLE, sign + address))
                self.assertIsNone(part_at(SAMPLE, address + sign))
            for address in ("", "l", "r"):
                self.assertIsNone(part_at(number(5), address + sign))
                self.assertIsNone(part_at(number(5), sign + address))

    def test_other_signs_in_the_middle(self):
        for address in ("rxl", "l r", "r1l", "rlxr", "rLl"):
            self.assertIsNone(part_at(SAMPLE, address))

    def test_deep_trees(self):
        for numbers in (16, 17, 31):
            left = left_chain(numbers)
            right = right_chain(numbers)
            deepest = numbers - 1
            self.assertEqual(part_at(left, "l" * deepest), number(0))
            self.assertEqual(part_at(right, "r" * deepest), number(0))
            self.assertIsNone(part_at(left, "l" * numbers))
            self.assertIsNone(part_at(right, "r" * numbers))
            for steps in range(deepest):
                self.assertEqual(part_at(left, "l" * steps), left_chain(numbers - steps))
                self.assertEqual(part_at(left, "l" * steps + "r"), number(deepest - steps))
                self.assertEqual(part_at(right, "r" * steps + "l"), number(deepest - steps))


class Turned(unittest.TestCase):
    def test_at_the_tree_itself(self):
        for kind in KINDS:
            self.assertEqual(turned((kind, number(1), number(2)), ""), (kind, number(2), number(1)))
        self.assertEqual(turned(SAMPLE, ""), times(SAMPLE_PARTS["r"], SAMPLE_PARTS["l"]))

    def test_within(self):
        self.assertEqual(
            turned(SAMPLE, "l"),
            times(less(number(5), number(3)), less(plus(number(2), number(4)), number(10))),
        )
        self.assertEqual(
            turned(SAMPLE, "r"),
            times(less(number(3), number(5)), less(number(10), plus(number(2), number(4)))),
        )
        self.assertEqual(
            turned(SAMPLE, "rl"),
            times(less(number(3), number(5)), less(plus(number(4), number(2)), number(10))),
        )

    def test_the_rest_stays(self):
        trees = [SAMPLE, even(16), even(17)] + [shape(16) for shape in SHAPES]
        for tree in trees:
            for address in joins_of(tree):
                kind, one, other = part_at(tree, address)
                self.assertEqual(turned(tree, address), replaced(tree, address, (kind, other, one)))

    def test_twice_gives_the_tree_again(self):
        for tree in small_trees() + [SAMPLE] + [shape(16) for shape in SHAPES]:
            for address in joins_of(tree):
                once = turned(tree, address)
                self.assertIs(is_tree(once), True)
                self.assertEqual(turned(once, address), tree)

    def test_worth_when_turned(self):
        for kind, n in (("plus", 5), ("less", 1), ("times", 6)):
            self.assertEqual(worth(turned((kind, number(2), number(3)), "")), n)


class TheWhole(unittest.TestCase):
    def test_lists_handed_in_are_not_changed(self):
        things = [
            ["plus", ["number", 1], ["number", 2]],
            plus(["number", 1], number(2)),
            ("number", [1, [2, 3]]),
            [["number", 1], [], [[]]],
        ]
        kept = copy.deepcopy(things)
        for thing in things:
            self.assertIs(is_tree(thing), False)
        self.assertEqual(things, kept)

    def test_trees_handed_in_are_not_changed_and_answers_stay_the_same(self):
        tree = copy.deepcopy(SAMPLE)
        first = [ask(tree) for _ in range(2)]
        ask(number(4))
        ask(left_chain(16))
        self.assertEqual(first, [ask(copy.deepcopy(SAMPLE))] * 2)
        self.assertEqual(tree, SAMPLE)

    def test_answers_are_tuples_throughout(self):
        for tree in (SAMPLE, even(16)):
            for address in joins_of(tree):
                self.assertIs(made_of_tuples(turned(tree, address)), True)
                self.assertIs(made_of_tuples(part_at(tree, address)), True)


def ask(tree):
    """All that can be asked of a tree."""
    parts = [part_at(tree, address) for address in ("", "l", "rl", "rrr", "x")]
    turns = [turned(tree, address) for address in joins_of(tree)]
    return (is_tree(tree), worth(tree), parts, turns)
