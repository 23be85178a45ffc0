"""Rows of holes, each with a bin."""

from gapgrades.errors import NoRow
from gapgrades.names import copied, is_list, is_name
from gapgrades.things import fits, is_hole, written

MOST_HOLES = 60


def is_hole_with_bin(thing):
    """Whether it is a tuple (hole, bin)."""
    return isinstance(thing, tuple) and len(thing) == 2 and is_hole(thing[0]) and is_name(thing[1])


def check_holes(holes):
    """Refuse what makes no row."""
    if not is_list(holes) or len(holes) > MOST_HOLES:
        raise NoRow(-1)
    for place, pair in enumerate(holes):
        if not is_hole_with_bin(pair) or len(pair[0]) != len(holes[0][0]):
            raise NoRow(place)


class Row:
    """A row: a thing falls at the first place whose hole it fits."""

    def __init__(self, holes):
        check_holes(holes)
        self.pairs = tuple([copied(pair) for pair in holes])

    def holes(self):
        """The tuples (hole, bin), in order."""
        return list(self.pairs)

    def bins(self):
        """The bins, each once, in the order in which they come."""
        return list({name: True for hole, name in self.pairs})

    def place_of(self, thing):
        """The place at which the thing falls, or None for out."""
        for place, (hole, name) in enumerate(self.pairs):
            if fits(thing, hole):
                return place
        return None

    def bin_of(self, thing):
        """The bin into which the thing falls, or None for out."""
        place = self.place_of(thing)
        return None if place is None else self.pairs[place][1]

    def __eq__(self, other):
        return isinstance(other, Row) and self.pairs == other.pairs

    def __len__(self):
        return len(self.pairs)

    def __str__(self):
        return "\n".join([f"{written(hole)} to {name}" for hole, name in self.pairs])
