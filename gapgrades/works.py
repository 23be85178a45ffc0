"""Works: rows that lead into one another."""

from gapgrades.errors import NoName, TooMany
from gapgrades.lots import is_of_sort
from gapgrades.names import copied
from gapgrades.things import meet

MOST_WAYS = 5000


def check_names(rows, first):
    """Refuse a first name, then a row to go to behind another one, that is none of the names."""
    names = list(rows)
    if first not in names:
        raise NoName(copied(first))
    for name in sorted(names):
        after = rows[name][1]
        if after is not None and after not in names:
            raise NoName(copied(after))


def many_ways(rows):
    """How many ways there are to fall at a place of each row, or out of it."""
    many = 1
    for name in rows:
        many *= len(rows[name][0]) + 1
    return many


def caps_by_ways(rows, greatest):
    """For each way the greatest thing, within this one, that may fall so; each once."""
    caps = {greatest: True}
    for name in rows:
        holes = [hole for hole, bin_name in rows[name][0].holes()]
        fallen = {meet(cap, hole): True for hole in holes for cap in caps}
        caps = {cap: True for cap in [*caps, *fallen]}
    return list(caps)


class Works:
    """Works: a bin that is called as a row leads there, another one keeps the thing."""

    def __init__(self, rows, first):
        check_names(rows, first)
        many = many_ways(rows)
        if many > MOST_WAYS:
            raise TooMany(many)
        self.first = copied(first)
        # Rising by names, so that equal works tell the same, however the dict was ordered.
        self.rows = {copied(name): (rows[name][0], copied(rows[name][1])) for name in sorted(list(rows))}

    def goes(self, thing):
        """("bin", bin, way), ("out", None, way) or ("round", name, way)."""
        way = []
        name = self.first
        while name not in way:
            way.append(name)
            row, after = self.rows[name]
            bin_name = row.bin_of(thing)
            if bin_name is not None and bin_name not in self.rows:
                return "bin", bin_name, way
            name = after if bin_name is None else bin_name
            if name is None:
                return "out", None, way
        return "round", name, way

    def wrong(self, lot):
        """(name, thing) of the first sort with a thing that isn't kept in its bin, or None."""
        for sort in lot.sorts():
            # Where a thing of the sort goes some way, the greatest one that falls so does, and is of the sort.
            for thing in caps_by_ways(self.rows, sort[1]):
                if is_of_sort(sort, thing) and self.goes(thing)[:2] != ("bin", sort[0]):
                    return sort[0], thing
        return None

    def grades(self, lot):
        """Whether each thing of each sort is kept in the bin of its name."""
        return self.wrong(lot) is None

    def __eq__(self, other):
        return isinstance(other, Works) and self.first == other.first and self.rows == other.rows
