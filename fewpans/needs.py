"""Pans needed if nothing is shelved, and full trees that show that fewer won't do."""


def need(tree):
    """The least number of pans with which a code without shelving works the tree off."""
    if tree[0] == "number":
        return 1
    one = need(tree[1])
    other = need(tree[2])
    # The part that needs more is worked off first; then it takes up one pan while the other is worked off.
    if one == other:
        return one + 1
    return max(one, other)


def full(tree, height):
    """A full tree of this height within the tree; None where there is none."""
    # A full tree of some height is there just where so many pans don't do.
    if height < 0 or need(tree) <= height:
        return None
    return full_within(tree, "", height)


def full_within(part, address, height):
    """A full tree within the part at the address, which needs more pans than the height."""
    if height == 0:
        return (address,)
    if need(part[1]) > height:
        return full_within(part[1], address + "l", height)
    if need(part[2]) > height:
        return full_within(part[2], address + "r", height)
    # Neither part needs more than the height, but the join does: so each needs just as many.
    first = full_within(part[1], address + "l", height - 1)
    second = full_within(part[2], address + "r", height - 1)
    return (address, first, second)
