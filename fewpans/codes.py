"""Codes: deeds done one behind the other, in pans and with places on a shelf."""

from fewpans.trees import joined_worth, part_at

PLACES = 41


def run(tree, code, pans):
    """The addresses that the pans hold in the end; None where some deed can't be done."""
    held = [None] * pans
    shelf = [None] * PLACES
    for deed in code:
        if not can_be_done(tree, deed, held, shelf):
            return None
        if makes(deed):
            held[deed[1]] = deed[2]
        else:
            move(deed, held, shelf)
    return tuple(held)


def numbers(tree, code, pans):
    """The numbers that the pans hold in the end, worked out without a look at what part each one is of."""
    # Numbers alone don't show whether a deed can be done, so this is asked of the addresses beforehand.
    if run(tree, code, pans) is None:
        return None
    held = [None] * pans
    shelf = [None] * PLACES
    for deed in code:
        if makes(deed):
            held[deed[1]] = number_made(tree, deed, held)
        else:
            move(deed, held, shelf)
    return tuple(held)


def shelved(code):
    """How many deeds shelve."""
    return len([deed for deed in code if deed[0] == "shelve"])


def makes(deed):
    """Whether the deed brings a part into a pan that need not have been held anywhere before."""
    return deed[0] == "put" or deed[0] == "join"


def move(deed, held, shelf):
    """Does a deed that shelves or fetches, whatever is held: addresses or numbers."""
    if deed[0] == "shelve":
        shelf[deed[1]] = held[deed[2]]
    else:
        held[deed[1]] = shelf[deed[2]]


def number_made(tree, deed, held):
    """The number that a deed puts, or makes of the numbers in the pans that it joins."""
    part = part_at(tree, deed[2])
    if deed[0] == "put":
        return part[1]
    return joined_worth(part[0], held[deed[3]], held[deed[4]])


def can_be_done(tree, deed, held, shelf):
    """Whether the deed can be done with what the pans and the shelf hold."""
    if deed[0] == "put":
        return is_there(held, deed[1]) and leads_to_number(tree, deed[2])
    if deed[0] == "join":
        return is_there(held, deed[1]) and holds_parts(tree, deed, held)
    if deed[0] == "shelve":
        return is_there(shelf, deed[1]) and held_at(held, deed[2]) is not None
    return is_there(held, deed[1]) and held_at(shelf, deed[2]) is not None


def is_there(holders, index):
    """Whether there is a pan or place of this number."""
    # Python would count a number below 0 from the end.
    return index >= 0 and index < len(holders)


def held_at(holders, index):
    """What the pan or place holds; None where it is empty or isn't there."""
    if is_there(holders, index):
        return holders[index]
    return None


def leads_to_number(tree, address):
    """Whether the address leads to a number."""
    part = part_at(tree, address)
    return part is not None and part[0] == "number"


def holds_parts(tree, deed, held):
    """Whether the address of the deed leads to a join, and its two pans hold the two parts in their order."""
    address = deed[2]
    part = part_at(tree, address)
    if part is None or part[0] == "number":
        return False
    return held_at(held, deed[3]) == address + "l" and held_at(held, deed[4]) == address + "r"
