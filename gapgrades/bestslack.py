"""The best slack of a lot: the greatest error that some row with one hole a sort bears."""

from gapgrades.grading import row_or_ring
from gapgrades.ringlooks import are_links
from gapgrades.rows import Row
from gapgrades.searches import last_holding
from gapgrades.things import GREATEST_OF_THINGS, widened


def told_with_room(lot, room):
    """("row", row) or ("ring", links), as graded, where each greatest thing is widened by the room."""
    sorts = lot.sorts()
    return row_or_ring(sorts, [widened(sort[1], room) for sort in sorts])


def bears_error(lot, error):
    """Whether some row with one hole a sort bears errors up to this one.

    A hole is the error wider than its sort's greatest thing at the least, and may come out wider by
    the error once more.
    """
    return told_with_room(lot, 2 * error)[0] == "row"


def row_with_error(lot, error):
    """The row that bears the error: each hole the greatest thing with the error added."""
    if error == -1:
        return None
    names = [name for hole, name in told_with_room(lot, 2 * error)[1].holes()]
    return Row([(widened(lot.sort_of(name)[1], error), name) for name in names])


def best_slack(lot):
    """(error, row, links), or None of fewer than two sorts."""
    if len(lot) < 2:
        return None
    # Twice the last one makes every thing fit every hole: there is a ring.
    error = last_holding(lambda tried: bears_error(lot, tried), -1, GREATEST_OF_THINGS // 2)
    return error, row_with_error(lot, error), told_with_room(lot, 2 * (error + 1))[1]


def shows_slack(lot, error, thing):
    """Whether it is links where each greatest thing is widened by twice one more than the error."""
    return are_links(lot, thing, 2 * (error + 1))
