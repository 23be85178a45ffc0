"""A row that grades a lot with one hole a sort, or a ring of sorts that bars all such rows."""

from gapgrades.arrows import greatest_within
from gapgrades.rows import Row


def fit_table(sorts, holes):
    """For each sort a list: its greatest thing that fits each hole, or None."""
    return [[greatest_within(sort, hole) for hole in holes] for sort in sorts]


def arrow_table(sorts):
    """For each sort a list: its arrow to each one, a thing or None."""
    return fit_table(sorts, [sort[1] for sort in sorts])


def elder_of(place, left, table):
    """The first other place of those left from which an arrow leads to this one, or None."""
    for other in left:
        if other != place and table[other][place] is not None:
            return other
    return None


def first_free(left, table):
    """The first place of those left to which no arrow leads from another one, or None."""
    for place in left:
        if elder_of(place, left, table) is None:
            return place
    return None


def lined_up(places, table):
    """Two lists of places: an order in which arrows lead on only, and those that it can't take."""
    order = []
    left = list(places)
    place = first_free(left, table)
    while place is not None:
        order.append(place)
        left.remove(place)
        place = first_free(left, table)
    return order, left


def ring_of(left, table):
    """Places in a ring of arrows, where an arrow leads to each one left from another one left."""
    way = [left[0]]
    elder = elder_of(way[-1], left, table)
    while elder not in way:
        way.append(elder)
        elder = elder_of(way[-1], left, table)
    ring = way[way.index(elder):]
    # The way went against the arrows.
    return ring[::-1]


def links_of(names, ring, table):
    """The links of a ring of places."""
    return [(names[one], table[one][other]) for one, other in zip(ring, ring[1:] + ring[:1])]


def row_or_ring(sorts, holes):
    """("row", row) of these holes, one a sort, or ("ring", links), each thing within the next hole."""
    names = [sort[0] for sort in sorts]
    table = fit_table(sorts, holes)
    order, left = lined_up(list(range(len(sorts))), table)
    if left:
        return "ring", links_of(names, ring_of(left, table), table)
    return "row", Row([(holes[place], names[place]) for place in order])


def graded(lot):
    """("row", row) or ("ring", links)."""
    sorts = lot.sorts()
    return row_or_ring(sorts, [sort[1] for sort in sorts])
