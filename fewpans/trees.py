"""Trees of work: what one is, what comes of it, and the parts that addresses lead to."""

JOIN_KINDS = ("plus", "less", "times")
GREATEST_NUMBER = 1000
MOST_NUMBERS = 16


def is_tree(thing):
    """Whether any thing at all is a tree of at most 16 numbers."""
    return count_numbers(thing, MOST_NUMBERS) is not None


def count_numbers(thing, most):
    """How many numbers the tree has; None where it is no tree of at most so many."""
    # Stopping here keeps the walk short even where one tuple stands in many places of a deep thing.
    if most < 1:
        return None
    if is_number(thing):
        return 1
    if not has_join_form(thing):
        return None
    # The second part needs a number too, so the first may not use them all up.
    in_one = count_numbers(thing[1], most - 1)
    if in_one is None:
        return None
    in_other = count_numbers(thing[2], most - in_one)
    if in_other is None:
        return None
    return in_one + in_other


def is_number(thing):
    """Whether the thing is a tree that is a number by itself."""
    if not isinstance(thing, tuple) or len(thing) != 2 or thing[0] != "number":
        return False
    return is_whole(thing[1]) and abs(thing[1]) <= GREATEST_NUMBER


def is_whole(thing):
    """Whether the thing is a whole number."""
    # Python counts True and False among its ints, the document doesn't.
    return isinstance(thing, int) and not isinstance(thing, bool)


def has_join_form(thing):
    """Whether the thing looks like a join, whatever its two parts are."""
    return isinstance(thing, tuple) and len(thing) == 3 and thing[0] in JOIN_KINDS


def worth(tree):
    """The number that comes of the tree."""
    if tree[0] == "number":
        return tree[1]
    return joined_worth(tree[0], worth(tree[1]), worth(tree[2]))


def joined_worth(kind, one, other):
    """The number that comes of a join of this kind, its parts being worth one and other."""
    if kind == "plus":
        return one + other
    if kind == "less":
        return one - other
    return one * other


def part_at(tree, address):
    """The part that the address leads to; None where it leads to none."""
    part = tree
    for step in address:
        if part[0] == "number":
            return None
        if step == "l":
            part = part[1]
        elif step == "r":
            part = part[2]
        else:
            return None
    return part


def turned(tree, address):
    """The tree with the parts of the join at the address exchanged."""
    if address == "":
        return (tree[0], tree[2], tree[1])
    rest = address[1:]
    if address[0] == "l":
        return (tree[0], turned(tree[1], rest), tree[2])
    return (tree[0], tree[1], turned(tree[2], rest))
