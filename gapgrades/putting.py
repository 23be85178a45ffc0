"""A sort more, put into a row that grades, or two things that bar it."""

from gapgrades.arrows import greatest_within
from gapgrades.errors import NotGraded
from gapgrades.lots import Lot
from gapgrades.onehole import check_one_hole
from gapgrades.rows import Row
from gapgrades.spreads import first_wrong


def check_graded(row, lot):
    """Refuse a row that doesn't grade the lot, by the first sort that falls wrong."""
    wrong = first_wrong(row, lot)
    if wrong is not None:
        raise NotGraded(wrong[0])


def last_taken(lot, row, greatest):
    """(place, thing) of the last hole whose sort has a thing that a hole just so great takes, or None."""
    for place, (hole, name) in reversed(list(enumerate(row.holes()))):
        thing = greatest_within(lot.sort_of(name), greatest)
        if thing is not None:
            return place, thing
    return None


def first_taking(row, sort):
    """(place, thing) of the first hole that takes a thing of the sort, or None."""
    for place, (hole, name) in enumerate(row.holes()):
        thing = greatest_within(sort, hole)
        if thing is not None:
            return place, thing
    return None


def put_in(lot, row, sort):
    """("row", row) with the sort's greatest thing among the elder holes, or ("barred", one, thing, other, thing)."""
    check_one_hole(row, lot)
    check_graded(row, lot)
    new = Lot([*lot.sorts(), sort]).sorts()[-1]
    pairs = row.holes()
    taken = last_taken(lot, row, new[1])
    taking = first_taking(row, new)
    # The new hole stands behind each one whose things it would take, and ahead of each that takes its own.
    if taken is not None and taking is not None and taken[0] >= taking[0]:
        return "barred", pairs[taken[0]][1], taken[1], pairs[taking[0]][1], taking[1]
    place = 0 if taken is None else taken[0] + 1
    return "row", Row([*pairs[:place], (new[1], new[0]), *pairs[place:]])
