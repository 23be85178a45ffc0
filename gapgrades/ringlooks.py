"""Looks at rings: whether anything is links of a lot."""

from gapgrades.names import is_list
from gapgrades.things import fits, widened


def is_link(lot, thing):
    """Whether it is a tuple of a name of the lot and a thing of this sort."""
    if not isinstance(thing, tuple) or len(thing) != 2 or thing[0] not in lot.names():
        return False
    return lot.has(thing[0], thing[1])


def leads_on(lot, link, after, room):
    """Whether the link's thing fits the greatest thing of the one after it, widened by the room."""
    greatest = lot.sort_of(after[0])[1]
    return fits(link[1], widened(greatest, room))


def are_links(lot, thing, room):
    """Whether it is links where each greatest thing is widened by the room."""
    if not is_list(thing) or len(thing) < 2 or not all([is_link(lot, link) for link in thing]):
        return False
    if len({link[0] for link in thing}) < len(thing):
        return False
    return all([leads_on(lot, link, after, room) for link, after in zip(thing, thing[1:] + thing[:1])])


def shows_ring(lot, thing):
    """Whether it is links of the lot."""
    return are_links(lot, thing, 0)
