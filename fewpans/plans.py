"""Codes that shelve as seldom as can be, and the joins that show that none shelves less often."""

from fewpans.needs import need


def plan(tree, pans):
    """A code that works the tree off with so many pans and shelves as seldom as any; None where none does."""
    # With shelving, two pans do for every join: its two parts must stand in pans at once, and no more.
    if pans < min(need(tree), 2):
        return None
    return tuple(deeds_for(tree, "", 0, pans, 0))


def spills(tree, pans):
    """How often a code must shelve that works the tree off with so many pans, two at least."""
    return len(cores(tree, pans))


def cores(tree, pans):
    """The addresses, in the order of texts, of all joins each of whose parts needs at least so many pans."""
    return tuple(cores_within(tree, "", pans))


def cores_within(part, address, pans):
    """The addresses of such joins within the part at the address."""
    if part[0] == "number":
        return []
    # A join ahead of its parts, and the first part ahead of the second: this is the order of texts.
    here = [address] if is_core(part, pans) else []
    return here + cores_within(part[1], address + "l", pans) + cores_within(part[2], address + "r", pans)


def is_core(part, pans):
    """Whether each part of this one, a join, needs at least so many pans."""
    return need(part[1]) >= pans and need(part[2]) >= pans


def deeds_for(part, address, pan, pans, place):
    """Deeds that bring the part into the pan, using only this pan and later ones, this place and later ones."""
    if part[0] == "number":
        return [("put", pan, address)]
    if is_core(part, pans - pan):
        return deeds_with_shelving(part, address, pan, pans, place)
    # The part that needs more goes first, with all pans; then the other one does with a pan less.
    if need(part[1]) >= need(part[2]):
        first = deeds_for(part[1], address + "l", pan, pans, place)
        second = deeds_for(part[2], address + "r", pan + 1, pans, place)
        return first + second + [("join", pan, address, pan, pan + 1)]
    first = deeds_for(part[2], address + "r", pan, pans, place)
    second = deeds_for(part[1], address + "l", pan + 1, pans, place)
    return first + second + [("join", pan, address, pan + 1, pan)]


def deeds_with_shelving(part, address, pan, pans, place):
    """Deeds for a join each of whose parts needs all pans: the first one is shelved meanwhile."""
    first = deeds_for(part[1], address + "l", pan, pans, place)
    shelving = [("shelve", place, pan)]
    # From here on the place is taken, so the second part shelves behind it.
    second = deeds_for(part[2], address + "r", pan, pans, place + 1)
    joining = [("fetch", pan + 1, place), ("join", pan, address, pan + 1, pan)]
    return first + shelving + second + joining
