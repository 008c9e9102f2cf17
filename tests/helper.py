"""What several tests use: trees of all shapes, a second way to do deeds, and searches over all codes."""

import functools
import itertools

KINDS = ("plus", "less", "times")


def number(n):
    return ("number", n)


# Shapes: None is a number, a pair is a join of two shapes.


@functools.lru_cache(maxsize=None)
def ordered_shapes(numbers):
    """All shapes with so many numbers."""
    if numbers == 1:
        return [None]
    found = []
    for first in range(1, numbers):
        found += itertools.product(ordered_shapes(first), ordered_shapes(numbers - first))
    return found


@functools.lru_cache(maxsize=None)
def loose_shapes(numbers):
    """Of shapes with so many numbers that differ only by exchanged parts, just one each."""
    if numbers == 1:
        return [None]
    found = []
    for first in range(1, numbers // 2 + 1):
        second = numbers - first
        if first == second:
            found += itertools.combinations_with_replacement(loose_shapes(first), 2)
        else:
            found += itertools.product(loose_shapes(first), loose_shapes(second))
    return found


def filled(shape, turn=0):
    """A tree of this shape, its kinds and numbers all sorts; with a turn some joins are exchanged."""
    counter = itertools.count(turn)

    def fill(part):
        step = next(counter)
        if part is None:
            return number((step * 389 + turn) % 2001 - 1000)
        one, other = part
        if turn and (step * 7 + turn) % 3 == 0:
            one, other = other, one
        return (KINDS[(step + step // 3) % 3], fill(one), fill(other))

    return fill(shape)


@functools.lru_cache(maxsize=None)
def ordered_trees(most):
    """A tree of each shape with up to so many numbers."""
    return tuple(filled(shape) for numbers in range(1, most + 1) for shape in ordered_shapes(numbers))


@functools.lru_cache(maxsize=None)
def loose_trees(most):
    """A tree of each shape with up to so many numbers, but for exchanged parts."""
    return tuple(
        filled(shape, turn) for numbers in range(1, most + 1) for turn, shape in enumerate(loose_shapes(numbers))
    )


@functools.lru_cache(maxsize=None)
def great_trees(step):
    """Every so-and-so-many-th of the trees with 12 to 16 numbers, and the chains and the even ones."""
    trees = [
        filled(shape, turn)
        for numbers in range(12, 17)
        for turn, shape in enumerate(loose_shapes(numbers))
        if turn % step == 0
    ]
    for numbers in range(12, 17):
        trees += [left_chain(numbers), right_chain(numbers), even(numbers)]
    return tuple(trees)


def left_chain(numbers):
    tree = number(0)
    for n in range(1, numbers):
        tree = (KINDS[n % 3], tree, number(n))
    return tree


def right_chain(numbers):
    tree = number(0)
    for n in range(1, numbers):
        tree = (KINDS[n % 3], number(n), tree)
    return tree


def even(numbers):
    """A tree split in halves throughout: with 16 numbers the one that needs most pans."""
    if numbers == 1:
        return number(7)
    half = numbers // 2
    return ("plus", even(half), even(numbers - half))


def parts_of(tree, address=""):
    """All parts by their addresses, a join ahead of its parts."""
    found = {address: tree}
    if tree[0] != "number":
        found.update(parts_of(tree[1], address + "l"))
        found.update(parts_of(tree[2], address + "r"))
    return found


def joins_of(tree):
    return [address for address, part in parts_of(tree).items() if part[0] != "number"]


def plain_need(tree):
    """The rule of 0.2 (d)."""
    if tree[0] == "number":
        return 1
    needs = sorted([plain_need(tree[1]), plain_need(tree[2])])
    return needs[1] + 1 if needs[0] == needs[1] else needs[1]


def plain_worth(tree):
    if tree[0] == "number":
        return tree[1]
    one, other = plain_worth(tree[1]), plain_worth(tree[2])
    return {"plus": one + other, "less": one - other, "times": one * other}[tree[0]]


def plain_run(tree, code, pans):
    """The words of 0.6, done with dicts in which an empty pan or place doesn't stand."""
    parts = parts_of(tree)
    pan_numbers = set(range(pans))
    place_numbers = set(range(41))
    held, shelf = {}, {}
    for deed in code:
        if deed[0] == "put":
            _, pan, address = deed
            if pan not in pan_numbers or parts.get(address, ("plus",))[0] != "number":
                return None
            held[pan] = address
        elif deed[0] == "join":
            _, pan, address, one, other = deed
            if pan not in pan_numbers or parts.get(address, ("number",))[0] == "number":
                return None
            if (held.get(one), held.get(other)) != (address + "l", address + "r"):
                return None
            held[pan] = address
        elif deed[0] == "shelve":
            _, place, pan = deed
            if place not in place_numbers or pan not in held:
                return None
            shelf[place] = held[pan]
        else:
            _, pan, place = deed
            if pan not in pan_numbers or place not in shelf:
                return None
            held[pan] = shelf[place]
    return tuple(held.get(pan) for pan in range(pans))


def least_shelving(tree, pans, most):
    """How often a code must shelve, found by a search over all that codes can do; None if oftener than most.

    Which pan holds which part doesn't matter, as pans can take one another's roles; a part held twice is as
    good as held once and an empty pan. So what is held is a set of parts, and a deed adds a part and, if it
    likes, drops one. Nothing shelved is lost, as there are more places than parts to shelve.
    """
    addresses = list(parts_of(tree))
    bit = {address: 1 << k for k, address in enumerate(addresses)}
    puts = [bit[address] for address in addresses if address + "l" not in bit]
    joins = [
        (bit[address + "l"] | bit[address + "r"], bit[address]) for address in addresses if address + "l" in bit
    ]
    goal = bit[""]
    level = {(0, 0)}
    for times in range(most + 1):
        reached = closure(level, puts, joins, list(bit.values()), pans)
        if any(held & goal for held, shelf in reached):
            return times
        level = {
            (held, shelf | one)
            for held, shelf in reached
            for one in bit.values()
            if held & one and not shelf & one
        }
    return None


def closure(states, puts, joins, bits, pans):
    """All that can be reached from the states without shelving."""
    reached = set(states)
    waiting = list(states)
    while waiting:
        held, shelf = waiting.pop()
        gains = puts + [one for both, one in joins if held & both == both] + [one for one in bits if shelf & one]
        for gain in gains:
            more = held | gain
            choices = [more & ~one for one in bits if held & one and one != gain]
            if more.bit_count() <= pans:
                choices.append(more)
            for choice in choices:
                if (choice, shelf) not in reached:
                    reached.add((choice, shelf))
                    waiting.append((choice, shelf))
    return reached


def made_of_tuples(thing):
    """Whether the thing holds tuples, texts, whole numbers and None alone."""
    if isinstance(thing, tuple):
        return all(made_of_tuples(part) for part in thing)
    return thing is None or (isinstance(thing, (str, int)) and not isinstance(thing, bool))
