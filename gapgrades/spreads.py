"""Spreads: where the things of a sort fall."""

from gapgrades.rules import keeps
from gapgrades.things import fits, meet


def spread(row, lot, name, *, out=True):
    """For each place at which a thing of the sort falls the greatest one; out, None, last."""
    greatest, rule = lot.sort_of(name)[1:]
    told = []
    for place, pair in enumerate(row.holes()):
        thing = meet(greatest, pair[0])
        # Where an elder hole takes this thing it takes all that are within it, so none falls here.
        if keeps(rule, thing) and row.place_of(thing) == place:
            told.append((place, thing))
    if out and row.place_of(greatest) is None:
        told.append((None, greatest))
    return told


def first_wrong(row, lot):
    """The first (name, thing, place) that doesn't fall into its own bin, or None."""
    for name in lot.names():
        for place, thing in spread(row, lot, name):
            if row.bin_of(thing) != name:
                return name, thing, place
    return None


def grades(row, lot):
    """Whether each thing of each sort falls into the bin of its sort's name."""
    return first_wrong(row, lot) is None


def fits_some(thing, holes):
    """Whether the thing fits one of the holes."""
    return any([fits(thing, hole) for hole in holes])


def falls_right(pairs, sort):
    """Whether each thing of the sort falls into its own bin by these tuples (hole, bin).

    The holes may be beyond the bounds of a row's, those of the sort's own bin below 0, too.
    """
    name, greatest, rule = sort
    own = []
    for hole, bin_name in pairs:
        if bin_name == name:
            own.append(hole)
            continue
        thing = meet(greatest, hole)
        # What this thing fits ahead takes all that are within it.
        if not fits_some(thing, own) and keeps(rule, thing):
            return False
    return fits_some(greatest, own)
