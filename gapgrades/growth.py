"""Growth: how many runs a row bears whose holes grow."""

from gapgrades.onehole import check_one_hole
from gapgrades.searches import last_holding
from gapgrades.spreads import falls_right
from gapgrades.things import GREATEST_OF_THINGS, widened


def grades_grown(row, lot, much):
    """Whether the row grades the lot when each measure of each hole is greater by so much."""
    pairs = [(widened(hole, much), name) for hole, name in row.holes()]
    return all([falls_right(pairs, sort) for sort in lot.sorts()])


def row_lasts(row, lot, *, growth=1):
    """The last run at which the row grades the lot; -1 where it doesn't at run 0, None where it always does."""
    check_one_hole(row, lot)
    if not grades_grown(row, lot, 0):
        return -1
    # By this run holes that grow at all take every thing, so nothing changes behind it.
    last = GREATEST_OF_THINGS
    if grades_grown(row, lot, last * growth):
        return None
    return last_holding(lambda run: grades_grown(row, lot, run * growth), 0, last)
