"""Looks at needs: whether names and rings are those of a lot."""

from gapgrades.grading import graded
from gapgrades.lots import Lot
from gapgrades.names import is_list
from gapgrades.needs import bits_of, many_bits, meets_all
from gapgrades.ringlooks import shows_ring


def are_rising_names(lot, thing):
    """Whether it is a list of names of the lot, rising, each once."""
    known = lot.names()
    if not is_list(thing) or not all([name in known for name in thing]):
        return False
    return all([name < after for name, after in zip(thing, thing[1:])])


def are_rings(lot, thing):
    """Whether it is a list of links of the lot."""
    return is_list(thing) and all([shows_ring(lot, ring) for ring in thing])


def leaves_no_ring(lot, names):
    """Whether the other sorts than these have no ring."""
    return graded(Lot([sort for sort in lot.sorts() if sort[0] not in names]))[0] == "row"


def some_meet_all(lot, rings, many):
    """Whether some so many names of the lot have one in each ring."""
    known = lot.names()
    marks = [bits_of([known.index(name) for name, thing in ring]) for ring in rings]
    for bits in range(1 << len(known)):
        if many_bits(bits) == many and meets_all(bits, marks):
            return True
    return False


def shows_needs(lot, names, rings):
    """Whether the names are as few as can be that meet all rings, and no fewer meet these rings."""
    if not are_rising_names(lot, names) or not are_rings(lot, rings) or not leaves_no_ring(lot, names):
        return False
    # Where still fewer met all rings, one fewer would: others may be put beside them.
    return not some_meet_all(lot, rings, len(names) - 1)
