"""Counts of the things that fall at each place."""

from gapgrades.errors import TooMany
from gapgrades.things import meet

MOST_HOLES = 12


def many_between(least, cap):
    """How many things the least one fits and that fit the cap."""
    many = 1
    for low, high in zip(least, cap):
        many *= max(0, high - low + 1)
    return many


def many_taken(taken, least, cap):
    """How many things within the cap are taken already."""
    return sum([times * many_between(least, meet(known, cap)) for known, times in taken.items()])


def taken_with(taken, cap):
    """What is taken when all within the cap is, too.

    A dict of caps to how often to count what is within them: what two caps have in common is
    counted by both, and so is taken off once. Caps that come to the same are kept as one.
    """
    more = {known: taken[known] for known in taken}
    more[cap] = more.get(cap, 0) + 1
    for known in taken:
        common = meet(known, cap)
        more[common] = more.get(common, 0) - taken[known]
    return {known: more[known] for known in more if more[known] != 0}


def counted(row, least, greatest):
    """How many things from the least to the greatest one fall at each place, and are out."""
    if len(row) > MOST_HOLES:
        raise TooMany(len(row))
    told = []
    taken = {}
    for hole, name in row.holes():
        cap = meet(greatest, hole)
        told.append(many_between(least, cap) - many_taken(taken, least, cap))
        taken = taken_with(taken, cap)
    told.append(many_between(least, greatest) - sum(told))
    return told
