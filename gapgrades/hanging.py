"""Given holes, hung in a row that grades a lot, or a ring that bars it."""

from gapgrades.errors import NoName, TooSmall
from gapgrades.grading import row_or_ring
from gapgrades.things import fits


def check_given(sorts, holes):
    """Refuse the first sort that has no hole, then the first whose greatest thing doesn't fit it."""
    for sort in sorts:
        if sort[0] not in holes:
            raise NoName(sort[0])
    for sort in sorts:
        if not fits(sort[1], holes[sort[0]]):
            raise TooSmall(sort[0])


def hung(lot, holes):
    """("row", row) of these holes, or ("ring", links), each thing within the next one's hole."""
    sorts = lot.sorts()
    check_given(sorts, holes)
    return row_or_ring(sorts, [holes[sort[0]] for sort in sorts])
