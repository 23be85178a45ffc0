"""Spreads: where the things of a sort fall."""

from gapgrades.rules import keeps
from gapgrades.things import meet


def spread(row, lot, name, *, out=True):
    """For each place at which a thing of the sort falls the greatest one; out, None, last."""
    greatest, rule = lot.sort_of(name)[1:]
    told = []
    for place, pair in enumerate(row.holes()):
        thing = meet(greatest, pair[0])
        # Where an elder hole takes this thing it takes all that are within it, so none falls here.
        if keeps(rule, thing) and row.place_of(thing) == place:
            told.append((place, thing))
    if out and row.place_of(greatest) is None:
        told.append((None, greatest))
    return told


def first_wrong(row, lot):
    """The first (name, thing, place) that doesn't fall into its own bin, or None."""
    for name in lot.names():
        for place, thing in spread(row, lot, name):
            if row.bin_of(thing) != name:
                return name, thing, place
    return None


def grades(row, lot):
    """Whether each thing of each sort falls into the bin of its sort's name."""
    return first_wrong(row, lot) is None
