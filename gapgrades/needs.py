"""Needs: as few sorts as meet all rings, and rings that no fewer meet."""

from gapgrades.grading import arrow_table, lined_up, links_of, ring_of


def many_bits(bits):
    """How many places are in these bits."""
    return f"{bits:b}".count("1")


def bits_of(places):
    """Unlike places as bits of one whole number."""
    return sum([1 << place for place in places])


def places_in(bits, many):
    """Which of so many places are in these bits, rising."""
    return [place for place in range(many) if (bits >> place) & 1 == 1]


def meets_all(bits, rings):
    """Whether each ring, as bits, has one of these places."""
    for ring in rings:
        if bits & ring == 0:
            return False
    return True


def left_without(bits, table):
    """Of the places that aren't in these bits those that no order can take."""
    others = [place for place in range(len(table)) if (bits >> place) & 1 == 0]
    return lined_up(others, table)[1]


def small_ring(left, table):
    """A ring, among places that no order can take, of which no fewer places have a ring."""
    for place in list(left):
        fewer = lined_up([other for other in left if other != place], table)[1]
        left = fewer if fewer else left
    return ring_of(left, table)


def met_and_shown(table):
    """As few places as can be, as bits, that meet all rings, and rings that no fewer meet."""
    rings = []
    known = []
    tried = sorted(range(1 << len(table)), key=many_bits)
    at = 0
    left = left_without(tried[at], table)
    while left:
        rings.append(small_ring(left, table))
        known.append(bits_of(rings[-1]))
        # What is passed over doesn't meet all rings found so far, so no fewer places do.
        while not meets_all(tried[at], known):
            at += 1
        left = left_without(tried[at], table)
    return tried[at], rings


def needs(lot):
    """(names, rings)."""
    names = lot.names()
    table = arrow_table(lot.sorts())
    bits, rings = met_and_shown(table)
    met = [names[place] for place in places_in(bits, len(names))]
    return sorted(met), [links_of(names, ring, table) for ring in rings]
