"""Slack: what errors in cutting a row bears."""

from gapgrades.searches import last_holding
from gapgrades.spreads import falls_right
from gapgrades.things import GREATEST_OF_HOLES, widened


def cut_against(pairs, name, error):
    """The holes, cut with errors up to this one, as it is worst for the sort of this name."""
    return [(widened(hole, -error if bin_name == name else error), bin_name) for hole, bin_name in pairs]


def bears(pairs, sort, error):
    """Whether the things of the sort fall into their bin whatever the errors up to this one are."""
    return falls_right(cut_against(pairs, sort[0], error), sort)


def slack_of_sort(pairs, sort, most):
    """The greatest error, from -1 to the most, that the sort bears."""
    if most == -1 or bears(pairs, sort, most):
        return most
    return last_holding(lambda error: bears(pairs, sort, error), -1, most - 1)


def slack(row, lot):
    """The greatest error with which the row grades the lot; -1 where it doesn't; None where none spoils it."""
    if len(lot) == 0:
        return None
    pairs = row.holes()
    # With a greater one every hole of a sort may be cut below 0.
    least = GREATEST_OF_HOLES
    for sort in lot.sorts():
        least = slack_of_sort(pairs, sort, least)
    return least
