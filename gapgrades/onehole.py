"""Rows with one hole a sort."""

from gapgrades.errors import NotOne


def check_one_hole(row, lot):
    """Refuse the first sort without just one hole, then the first bin that is no sort's."""
    bins = [name for hole, name in row.holes()]
    names = lot.names()
    for name in names:
        if bins.count(name) != 1:
            raise NotOne(name)
    for name in bins:
        if name not in names:
            raise NotOne(name)
