"""Arrows: which sorts have things that fit another one's greatest."""

from gapgrades.rules import keeps
from gapgrades.things import meet


def greatest_within(sort, hole):
    """The greatest thing of the sort that fits the hole, or None."""
    thing = meet(sort[1], hole)
    return thing if keeps(sort[2], thing) else None


def arrow(lot, one, other):
    """The arrow from the sort of the first name to that of the other: a thing, or None."""
    first = lot.sort_of(one)
    second = lot.sort_of(other)
    return greatest_within(first, second[1])


def shared(lot):
    """The first two sorts that have a thing of both, and the greatest such thing, or None."""
    sorts = lot.sorts()
    for place, first in enumerate(sorts):
        for second in sorts[place + 1:]:
            thing = greatest_within(first, second[1])
            if thing is not None and keeps(second[2], thing):
                return first[0], second[0], thing
    return None
