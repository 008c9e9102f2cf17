"""Tests of fewpans.codes: promises 0.2 (a), 0.3, 0.6, 2.1 and 2.2."""

import copy
import itertools
import unittest

from helper import (
    KINDS,
    great_trees,
    joins_of,
    made_of_tuples,
    number,
    ordered_trees,
    parts_of,
    plain_run,
    plain_worth,
)

from fewpans.codes import numbers, run, shelved
from fewpans.plans import plan

PAIR = ("less", number(3), number(5))

# (3 - 5) * ((2 + 4) - 10)
SAMPLE = ("times", PAIR, ("less", ("plus", number(2), number(4)), number(10)))

# Both parts are equal, but not at the same address.
TWINS = ("plus", PAIR, PAIR)

PUT_BOTH = (("put", 0, "l"), ("put", 1, "r"))
NOT_THERE = (-1, -2, -41, -100, 41, 42, 1000, 10**30)


def wild_code(tree, pans, steps, seed):
    """A code of so many deeds that can be done, wild and without an aim, the same each time."""
    code = []
    wild = seed
    while len(code) < steps:
        deeds = all_deeds(tree, plain_run(tree, code, pans), plain_shelf(tree, code, pans))
        wild = (wild * 1103515245 + 12345) % 2**31
        code.append(deeds[(wild >> 8) % len(deeds)])
    return tuple(code)


def plain_shelf(tree, code, pans):
    """The places from 0 to 4 that hold something."""
    return [place for place in range(5) if plain_run(tree, tuple(code) + (("fetch", 0, place),), pans) is not None]


def all_deeds(tree, held, places):
    """The deeds that can be done, joins oftener than the rest so that codes get somewhere."""
    parts = parts_of(tree)
    at = {address: pan for pan, address in enumerate(held) if address is not None}
    pans = range(len(held))
    deeds = [("put", pan, address) for pan in pans for address in parts if parts[address][0] == "number"]
    for address in joins_of(tree):
        if address + "l" in at and address + "r" in at:
            one, other = at[address + "l"], at[address + "r"]
            deeds += [("join", pan, address, one, other) for pan in pans] * 6
    deeds += [("shelve", place, pan) for place in range(5) for pan in at.values()]
    deeds += [("fetch", pan, place) for pan in pans for place in places]
    return deeds


class Codes(unittest.TestCase):
    def assert_run(self, tree, code, pans, held):
        self.assertEqual(run(tree, code, pans), held)
        self.assertEqual(plain_run(tree, code, pans), held)

    def assert_not_done(self, tree, code, pans):
        """Neither as it is nor with more behind it."""
        self.assertIsNone(run(tree, code, pans))
        put = ("put", 0, next(address for address, part in parts_of(tree).items() if part[0] == "number"))
        self.assertIsNone(run(tree, code + (put,), pans))


class Empty(Codes):
    def test_the_empty_code(self):
        for tree in (number(4), PAIR, SAMPLE):
            for pans in range(1, 9):
                self.assert_run(tree, (), pans, (None,) * pans)
                self.assertEqual(numbers(tree, (), pans), (None,) * pans)
        self.assertEqual(shelved(()), 0)


class Put(Codes):
    def test_done(self):
        self.assert_run(number(4), (("put", 0, ""),), 1, ("",))
        self.assert_run(PAIR, (("put", 0, "l"),), 1, ("l",))
        for pans in range(1, 9):
            for pan in range(pans):
                held = tuple("rlr" if k == pan else None for k in range(pans))
                self.assert_run(SAMPLE, (("put", pan, "rlr"),), pans, held)

    def test_over_what_was_held(self):
        self.assert_run(SAMPLE, (("put", 0, "ll"), ("put", 0, "rr")), 2, ("rr", None))

    def test_twice(self):
        self.assert_run(SAMPLE, (("put", 0, "ll"), ("put", 1, "ll"), ("put", 0, "ll")), 2, ("ll", "ll"))

    def test_a_pan_that_is_not_there(self):
        for pans in range(1, 9):
            for pan in NOT_THERE + (pans, pans + 1, -pans):
                self.assert_not_done(PAIR, (("put", pan, "l"),), pans)

    def test_an_address_of_a_join(self):
        for tree in (PAIR, SAMPLE, TWINS):
            for address in joins_of(tree):
                self.assert_not_done(tree, (("put", 0, address),), 2)

    def test_an_address_of_nothing(self):
        for address in ("l", "r", "x", " ", "lr"):
            self.assert_not_done(number(4), (("put", 0, address),), 2)
        for address in ("lll", "rrr", "L", "x", "xl", "llx", "rl ", "\n", "0"):
            self.assert_not_done(SAMPLE, (("put", 0, address),), 2)


class Join(Codes):
    def test_done_into_each_pan(self):
        self.assert_run(PAIR, PUT_BOTH + (("join", 0, "", 0, 1),), 2, ("", "r"))
        self.assert_run(PAIR, PUT_BOTH + (("join", 1, "", 0, 1),), 2, ("l", ""))
        self.assert_run(PAIR, PUT_BOTH + (("join", 2, "", 0, 1),), 3, ("l", "r", ""))
        self.assert_run(PAIR, (("put", 0, "r"), ("put", 1, "l"), ("join", 0, "", 1, 0)), 2, ("", "l"))

    def test_into_a_pan_that_held_something(self):
        code = (("put", 0, "ll"), ("put", 1, "lr"), ("put", 2, "rr"), ("join", 2, "l", 0, 1))
        self.assert_run(SAMPLE, code, 3, ("ll", "lr", "l"))

    def test_twice(self):
        code = PUT_BOTH + (("join", 2, "", 0, 1), ("join", 0, "", 0, 1), ("put", 0, "l"), ("join", 1, "", 0, 1))
        self.assert_run(PAIR, code, 3, ("l", "", ""))

    def test_of_joins(self):
        code = (
            ("put", 0, "rll"),
            ("put", 1, "rlr"),
            ("join", 1, "rl", 0, 1),
            ("put", 0, "rr"),
            ("join", 0, "r", 1, 0),
            ("put", 1, "ll"),
            ("put", 2, "lr"),
            ("join", 2, "l", 1, 2),
            ("join", 0, "", 2, 0),
        )
        self.assert_run(SAMPLE, code, 3, ("", "ll", "l"))
        self.assert_run(SAMPLE, code[:-1], 3, ("r", "ll", "l"))

    def test_pans_that_are_not_there(self):
        for pans in range(2, 9):
            for pan in NOT_THERE + (pans, pans + 1, -pans, 1 - pans):
                self.assert_not_done(PAIR, PUT_BOTH + (("join", pan, "", 0, 1),), pans)
                self.assert_not_done(PAIR, PUT_BOTH + (("join", 0, "", pan, 1),), pans)
                self.assert_not_done(PAIR, PUT_BOTH + (("join", 0, "", 0, pan),), pans)

    def test_pans_that_hold_nothing(self):
        self.assert_not_done(PAIR, (("join", 0, "", 0, 1),), 2)
        self.assert_not_done(PAIR, (("put", 0, "l"), ("join", 0, "", 0, 1)), 2)
        self.assert_not_done(PAIR, (("put", 1, "r"), ("join", 0, "", 0, 1)), 2)
        self.assert_not_done(PAIR, PUT_BOTH + (("join", 0, "", 2, 1),), 3)
        self.assert_not_done(PAIR, PUT_BOTH + (("join", 0, "", 0, 2),), 3)

    def test_an_address_of_a_number(self):
        self.assert_not_done(number(4), (("put", 0, ""), ("join", 0, "", 0, 0)), 2)
        for address in ("l", "r"):
            self.assert_not_done(PAIR, PUT_BOTH + (("join", 0, address, 0, 1),), 2)

    def test_an_address_of_nothing(self):
        for address in ("ll", "rr", "x", "lx", "L", " ", "llllll"):
            self.assert_not_done(PAIR, PUT_BOTH + (("join", 0, address, 0, 1),), 2)

    def test_the_two_parts_the_other_way_round(self):
        for kind in KINDS:
            self.assert_not_done((kind, number(2), number(2)), PUT_BOTH + (("join", 0, "", 1, 0),), 2)

    def test_one_pan_for_both_parts(self):
        for pan in (0, 1):
            self.assert_not_done(PAIR, PUT_BOTH + (("join", 0, "", pan, pan),), 2)
            self.assert_not_done(("plus", number(1), number(1)), PUT_BOTH + (("join", 0, "", pan, pan),), 2)

    def test_pans_that_hold_other_parts(self):
        code = (("put", 0, "ll"), ("put", 1, "lr"))
        self.assert_not_done(SAMPLE, code + (("join", 0, "", 0, 1),), 2)
        self.assert_not_done(SAMPLE, code + (("join", 0, "rl", 0, 1),), 2)
        self.assert_not_done(SAMPLE, (("put", 0, "ll"), ("put", 1, "rr"), ("join", 0, "l", 0, 1)), 2)
        self.assert_not_done(SAMPLE, (("put", 0, "rr"), ("put", 1, "lr"), ("join", 0, "l", 0, 1)), 2)

    def test_equal_parts_at_other_addresses(self):
        code = (("put", 0, "ll"), ("put", 1, "lr"))
        self.assert_run(TWINS, code + (("join", 0, "l", 0, 1),), 2, ("l", "lr"))
        self.assert_not_done(TWINS, code + (("join", 0, "r", 0, 1),), 2)
        self.assert_not_done(TWINS, (("put", 0, "ll"), ("put", 1, "rr"), ("join", 0, "l", 0, 1)), 2)
        self.assert_not_done(TWINS, code + (("join", 0, "l", 0, 1), ("join", 0, "", 0, 0)), 2)

    def test_a_part_that_is_gone(self):
        self.assert_not_done(PAIR, PUT_BOTH + (("join", 0, "", 0, 1), ("join", 0, "", 0, 1)), 2)
        self.assert_not_done(PAIR, PUT_BOTH + (("put", 0, "r"), ("join", 0, "", 0, 1)), 2)


class ShelveAndFetch(Codes):
    def test_shelving_leaves_the_pan_as_it_was(self):
        for place in (0, 1, 39, 40):
            code = PUT_BOTH + (("shelve", place, 0),)
            self.assert_run(PAIR, code, 2, ("l", "r"))
            self.assert_run(PAIR, code + (("join", 0, "", 0, 1),), 2, ("", "r"))

    def test_fetching(self):
        for place in (0, 1, 39, 40):
            code = (("put", 0, "l"), ("shelve", place, 0), ("put", 0, "r"), ("fetch", 1, place))
            self.assert_run(PAIR, code, 2, ("r", "l"))
            self.assert_run(PAIR, code + (("fetch", 0, place),), 2, ("l", "l"))
            self.assert_run(PAIR, code + (("fetch", 2, place), ("fetch", 1, place)), 3, ("r", "l", "l"))

    def test_a_join_shelved_and_fetched(self):
        code = PUT_BOTH + (("join", 0, "", 0, 1), ("shelve", 7, 0), ("put", 0, "l"), ("fetch", 1, 7))
        self.assert_run(PAIR, code, 2, ("l", ""))

    def test_a_place_shelved_over_again(self):
        code = PUT_BOTH + (("shelve", 3, 0), ("shelve", 3, 1), ("fetch", 0, 3))
        self.assert_run(PAIR, code, 2, ("r", "r"))

    def test_what_is_shelved_stays_when_the_pan_changes(self):
        code = PUT_BOTH + (("shelve", 0, 0), ("join", 0, "", 0, 1), ("fetch", 1, 0))
        self.assert_run(PAIR, code, 2, ("", "l"))

    def test_all_places_at_once(self):
        shelving = [(("put", 0, "lr"[place % 2]), ("shelve", place, 0)) for place in range(41)]
        code = tuple(itertools.chain(*shelving))
        for place in range(41):
            self.assert_run(PAIR, code + (("fetch", 1, place),), 2, ("l", "lr"[place % 2]))

    def test_places_that_are_not_there(self):
        for place in NOT_THERE:
            for pans in range(1, 9):
                self.assert_not_done(PAIR, (("put", 0, "l"), ("shelve", place, 0)), pans)
                self.assert_not_done(PAIR, (("put", 0, "l"), ("shelve", 0, 0), ("fetch", 0, place)), pans)
                self.assert_not_done(PAIR, (("put", 0, "l"), ("shelve", 40, 0), ("fetch", 0, place)), pans)

    def test_pans_that_are_not_there(self):
        for pans in range(1, 9):
            full = tuple(("put", pan, "l") for pan in range(pans)) + (("shelve", 0, 0),)
            for pan in NOT_THERE + (pans, pans + 1, -pans):
                self.assert_not_done(PAIR, full + (("shelve", 1, pan),), pans)
                self.assert_not_done(PAIR, full + (("fetch", pan, 0),), pans)

    def test_nothing_to_shelve(self):
        self.assert_not_done(PAIR, (("shelve", 0, 0),), 1)
        self.assert_not_done(PAIR, (("put", 0, "l"), ("shelve", 0, 1)), 2)

    def test_nothing_to_fetch(self):
        for place in range(41):
            self.assert_not_done(PAIR, (("fetch", 0, place),), 1)
            self.assert_not_done(PAIR, PUT_BOTH + (("shelve", (place + 1) % 41, 0), ("fetch", 0, place)), 2)


class Wholes(Codes):
    def test_the_deed_that_cannot_be_done_first_in_the_middle_or_last(self):
        good = PUT_BOTH + (("shelve", 0, 0), ("join", 0, "", 0, 1), ("fetch", 1, 0))
        bad = (
            ("put", 2, "l"),
            ("put", 0, ""),
            ("join", 0, "l", 0, 1),
            ("shelve", 41, 0),
            ("shelve", 0, 2),
            ("fetch", 0, 5),
            ("fetch", -1, 0),
        )
        self.assert_run(PAIR, good, 2, ("", "l"))
        for k in range(len(good) + 1):
            for deed in bad:
                self.assertIsNone(run(PAIR, good[:k] + (deed,) + good[k:], 2))

    def test_all_short_codes(self):
        deeds = [("put", pan, address) for pan in (0, 1, 2) for address in ("", "l", "r", "x")]
        deeds += [("join", pan, "", one, other) for pan in (0, 1) for one in (0, 1) for other in (0, 1)]
        deeds += [("shelve", place, pan) for place in (-1, 0, 40, 41) for pan in (0, 1)]
        deeds += [("fetch", pan, place) for place in (0, 40, 41) for pan in (-1, 0, 1)]
        for length in (1, 2, 3):
            for code in itertools.product(deeds, repeat=length):
                self.assertEqual(run(PAIR, code, 2), plain_run(PAIR, code, 2))

    def test_wild_codes_with_one_deed_changed(self):
        changes = (("put", 0, "l"), ("put", 8, "ll"), ("join", 0, "", 0, 1), ("shelve", 3, 1), ("fetch", 1, 4))
        for seed in range(20):
            code = wild_code(SAMPLE, 3, 25, seed)
            for k in range(len(code)):
                for deed in changes:
                    changed = code[:k] + (deed,) + code[k + 1 :]
                    self.assertEqual(run(SAMPLE, changed, 3), plain_run(SAMPLE, changed, 3))

    def test_somewhat_beyond_the_bounds(self):
        self.assert_run(PAIR, (("put", 8, "l"),), 9, (None,) * 8 + ("l",))
        self.assert_run(PAIR, (), 0, ())
        self.assert_not_done(PAIR, (("put", 0, "l"),), 0)


class Numbers(Codes):
    def assert_numbers(self, tree, code, pans):
        held = run(tree, code, pans)
        self.assertIsNotNone(held)
        parts = parts_of(tree)
        expected = tuple(None if address is None else plain_worth(parts[address]) for address in held)
        self.assertEqual(numbers(tree, code, pans), expected)

    def test_each_kind(self):
        for kind, n in (("plus", 8), ("less", -2), ("times", 15)):
            tree = (kind, number(3), number(5))
            self.assertEqual(numbers(tree, PUT_BOTH + (("join", 0, "", 0, 1),), 2), (n, 5))
            self.assertEqual(numbers(tree, PUT_BOTH + (("join", 1, "", 0, 1),), 3), (3, n, None))
            code = (("put", 0, "r"), ("put", 1, "l"), ("join", 0, "", 1, 0))
            self.assertEqual(numbers(tree, code, 2), (n, 3))

    def test_zero_is_not_nothing(self):
        tree = ("less", number(0), number(0))
        self.assertEqual(numbers(tree, PUT_BOTH + (("join", 0, "", 0, 1),), 3), (0, 0, None))
        self.assertEqual(numbers(tree, (("put", 0, "l"), ("shelve", 0, 0), ("fetch", 1, 0)), 2), (0, 0))

    def test_put_and_joined_twice(self):
        code = PUT_BOTH + (("join", 0, "", 0, 1), ("put", 0, "l"), ("join", 1, "", 0, 1), ("put", 2, "r"))
        self.assertEqual(numbers(PAIR, code, 3), (3, -2, 5))

    def test_shelved_and_fetched(self):
        code = PUT_BOTH + (("join", 0, "", 0, 1), ("shelve", 40, 0), ("put", 0, "r"), ("fetch", 2, 40))
        self.assertEqual(numbers(PAIR, code, 3), (5, 5, -2))
        code = PUT_BOTH + (("shelve", 3, 0), ("shelve", 3, 1), ("fetch", 0, 3))
        self.assertEqual(numbers(PAIR, code, 2), (5, 5))

    def test_the_greatest_numbers(self):
        tree = number(1000)
        for _ in range(15):
            tree = ("times", tree, number(-1000))
        self.assertEqual(numbers(tree, plan(tree, 2), 2)[0], -(10**48))

    def test_all_short_codes(self):
        deeds = [("put", pan, address) for pan in (0, 1) for address in ("l", "r")]
        deeds += [("join", 0, "", 0, 1), ("join", 1, "", 0, 1), ("join", 1, "", 1, 0)]
        deeds += [("shelve", 0, 0), ("shelve", 0, 1), ("fetch", 0, 0), ("fetch", 1, 0)]
        done = 0
        for code in itertools.product(deeds, repeat=4):
            if run(PAIR, code, 2) is not None:
                self.assert_numbers(PAIR, code, 2)
                done += 1
        self.assertGreater(done, 300)

    def test_wild_codes(self):
        for seed in range(60):
            for pans in (2, 3, 5):
                code = wild_code(SAMPLE, pans, 30, seed)
                for length in (10, 20, 30):
                    self.assert_numbers(SAMPLE, code[:length], pans)

    def test_plans_and_each_beginning_of_them(self):
        for tree in ordered_trees(5) + great_trees(800):
            for pans in (2, 3, 8):
                code = plan(tree, pans)
                for length in range(len(code) + 1):
                    self.assert_numbers(tree, code[:length], pans)

    def test_plans_leave_the_worth_in_pan_0(self):
        for tree in ordered_trees(7):
            for pans in (2, 3):
                self.assertEqual(numbers(tree, plan(tree, pans), pans)[0], plain_worth(tree))


class Shelved(unittest.TestCase):
    def test_without(self):
        self.assertEqual(shelved(PUT_BOTH), 0)
        self.assertEqual(shelved(PUT_BOTH + (("join", 0, "", 0, 1), ("fetch", 0, 0), ("fetch", 1, 40))), 0)

    def test_with(self):
        self.assertEqual(shelved((("shelve", 0, 0),)), 1)
        code = PUT_BOTH + (("shelve", 3, 0), ("shelve", 3, 0), ("fetch", 0, 3), ("shelve", 40, 1))
        for length, times in ((2, 0), (3, 1), (4, 2), (5, 2), (6, 3)):
            self.assertEqual(shelved(code[:length]), times)

    def test_a_code_that_cannot_be_done(self):
        self.assertEqual(shelved((("shelve", 99, -1), ("fetch", 0, 0), ("shelve", 0, 0))), 2)


class TheWhole(unittest.TestCase):
    def test_nothing_is_changed_and_the_same_is_told_again(self):
        code = wild_code(SAMPLE, 3, 25, 4)
        tree_before, code_before = copy.deepcopy(SAMPLE), copy.deepcopy(code)
        first = ask(SAMPLE, code)
        ask(PAIR, PUT_BOTH)
        ask(PAIR, (("fetch", 0, 0),))
        self.assertEqual(ask(SAMPLE, code), first)
        self.assertEqual(ask(tree_before, code_before), first)
        self.assertEqual((SAMPLE, code), (tree_before, code_before))

    def test_nothing_is_left_on_the_shelf(self):
        run(PAIR, (("put", 0, "l"), ("shelve", 0, 0)), 2)
        numbers(PAIR, (("put", 0, "l"), ("shelve", 0, 0)), 2)
        self.assertIsNone(run(PAIR, (("fetch", 0, 0),), 2))

    def test_kinds_of_answers(self):
        for seed in range(10):
            code = wild_code(SAMPLE, 3, 20, seed)
            for answer in ask(SAMPLE, code):
                self.assertIs(made_of_tuples(answer), True)
            self.assertIsInstance(run(SAMPLE, code, 3), tuple)
            self.assertIsInstance(numbers(SAMPLE, code, 3), tuple)


def ask(tree, code):
    """All that can be asked of a code."""
    done = run(tree, code, 3)
    return (done, None if done is None else numbers(tree, code, 3), shelved(code))
