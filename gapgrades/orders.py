"""The orders in which the greatest things grade a lot: counted and numbered.

Lots of places are whole numbers here: the bit of each place tells whether it is in.
"""

from gapgrades.errors import NoNumber, NoOrder
from gapgrades.grading import arrow_table
from gapgrades.names import copied, is_list, is_whole_from


def elders_of(place, table):
    """The places, as bits, from which an arrow leads to this one: they come ahead of it."""
    return sum([1 << one for one in range(len(table)) if one != place and table[one][place] is not None])


def elders_in(lot):
    """For each sort the places, as bits, of those that come ahead of it."""
    table = arrow_table(lot.sorts())
    return [elders_of(place, table) for place in range(len(table))]


def free_places(taken, elders):
    """The places that may come next where those taken, as bits, came: rising."""
    return [
        place for place, ahead in enumerate(elders) if (taken >> place) & 1 == 0 and (taken & ahead) == ahead
    ]


def ways_from(elders):
    """For all places taken, as bits, in how many orders the others may follow."""
    everything = (1 << len(elders)) - 1
    ways = [0] * everything + [1]
    for taken in reversed(range(everything)):
        ways[taken] = sum([ways[taken | (1 << place)] for place in free_places(taken, elders)])
    return ways


def many_orders(lot):
    """How many orders there are."""
    return ways_from(elders_in(lot))[0]


def step_at(number, taken, elders, ways):
    """The next place in the order of this number of all that go on from here, and its number behind it."""
    free = free_places(taken, elders)
    left = number
    while left >= ways[taken | (1 << free[0])]:
        left -= ways[taken | (1 << free[0])]
        del free[0]
    return free[0], left


def order_at(lot, number):
    """The order of this number."""
    elders = elders_in(lot)
    ways = ways_from(elders)
    if not is_whole_from(number, 0, ways[0] - 1):
        raise NoNumber(copied(number))
    names = lot.names()
    order = []
    taken = 0
    left = number
    while len(order) < len(names):
        place, left = step_at(left, taken, elders, ways)
        order.append(names[place])
        taken |= 1 << place
    return order


def places_named(lot, names):
    """The places in the lot of all its names, in this order; what has others is no order."""
    known = lot.names()
    if not is_list(names) or len(names) != len(known) or not all([name in known for name in names]):
        raise NoOrder()
    return [known.index(name) for name in names]


def number_of(lot, names):
    """The number of this order."""
    places = places_named(lot, names)
    elders = elders_in(lot)
    ways = ways_from(elders)
    number = 0
    taken = 0
    for place in places:
        free = free_places(taken, elders)
        if place not in free:
            raise NoOrder()
        number += sum([ways[taken | (1 << other)] for other in free if other < place])
        taken |= 1 << place
    return number
