"""Lots of sorts."""

from gapgrades.errors import Empty, NoName, NoSort, Twice, Unlike
from gapgrades.names import copied, is_list, is_name
from gapgrades.rules import is_rule, keeps
from gapgrades.things import fits, is_thing

MOST_SORTS = 12


def is_sort(thing):
    """Whether it is a tuple (name, greatest, rule)."""
    if not isinstance(thing, tuple) or len(thing) != 3:
        return False
    return is_name(thing[0]) and is_thing(thing[1]) and is_rule(thing[2], len(thing[1]))


def is_of_sort(sort, thing):
    """Whether the thing, of as many measures as the sort, is one of its things."""
    return fits(thing, sort[1]) and keeps(sort[2], thing)


def check_sort(sorts, place):
    """Refuse what stands at this place, those ahead of it being right."""
    sort = sorts[place]
    if not is_sort(sort):
        raise NoSort(place)
    if len(sort[1]) != len(sorts[0][1]):
        raise Unlike(place)
    if not is_of_sort(sort, sort[1]):
        raise Empty(copied(sort[0]))
    if sort[0] in [elder[0] for elder in sorts[:place]]:
        raise Twice(copied(sort[0]))


def check_sorts(sorts):
    """Refuse what makes no lot."""
    if not is_list(sorts) or len(sorts) > MOST_SORTS:
        raise NoSort(-1)
    for place in range(len(sorts)):
        check_sort(sorts, place)


class Lot:
    """A lot: sorts of unlike names, all of as many measures."""

    def __init__(self, sorts):
        check_sorts(sorts)
        self.members = tuple([copied(sort) for sort in sorts])

    def names(self):
        """The names of the sorts, in order."""
        return [sort[0] for sort in self.members]

    def sorts(self):
        """The sorts, in order."""
        return list(self.members)

    def sort_of(self, name):
        """The sort of this name."""
        for sort in self.members:
            if sort[0] == name:
                return sort
        raise NoName(copied(name))

    def measures(self):
        """How many measures the sorts have, or None without sorts."""
        return len(self.members[0][1]) if self.members else None

    def has(self, name, thing):
        """Whether it is a thing of the sort of this name."""
        sort = self.sort_of(name)
        return is_thing(thing) and len(thing) == len(sort[1]) and is_of_sort(sort, thing)

    def __eq__(self, other):
        return isinstance(other, Lot) and self.members == other.members

    def __len__(self):
        return len(self.members)
