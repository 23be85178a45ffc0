"""Wear: how far the rules of a lot with a scale may be lowered until two sorts share a thing."""

from gapgrades.arrows import shared
from gapgrades.errors import NoName
from gapgrades.lots import Lot
from gapgrades.rising import check_scale, rising
from gapgrades.scales import worth
from gapgrades.things import meet


def lowered_sort(sort, much):
    """The sort with its rule's number lowered by so much."""
    name, greatest, (word, scale, number) = sort
    return name, greatest, (word, scale, max(0, number - much))


def at_run(lot, rates, run):
    """The lot at this run."""
    return Lot([lowered_sort(sort, run * rates[sort[0]]) for sort in lot.sorts()])


def first_run_within(sort, thing, rate):
    """The first run at which the rule keeps the thing, or None."""
    word, scale, number = sort[2]
    lacking = number - worth(scale, thing)
    if lacking <= 0:
        return 0
    # Rounded up: the number must have fallen by all that lacks.
    return None if rate == 0 else (lacking + rate - 1) // rate


def first_run_of_both(one, other, rates):
    """The first run at which two sorts have a thing of both, or None."""
    thing = meet(one[1], other[1])
    first = first_run_within(one, thing, rates[one[0]])
    second = first_run_within(other, thing, rates[other[0]])
    return None if first is None or second is None else max(first, second)


def first_run_shared(lot, rates):
    """The first run at which some two sorts have a thing of both, or None."""
    sorts = lot.sorts()
    runs = [
        first_run_of_both(one, other, rates) for place, one in enumerate(sorts) for other in sorts[place + 1:]
    ]
    return min([run for run in runs if run is not None], default=None)


def run_of_all_lowered(lot):
    """A run behind which no rule's number falls any further, whatever the rates are."""
    return max([sort[2][2] for sort in lot.sorts()])


def told_of_runs(lot, rates):
    """(run, row, pair) of a lot with a scale and a rate for each sort."""
    run = first_run_shared(lot, rates)
    if run is None:
        return None, rising(at_run(lot, rates, run_of_all_lowered(lot))), None
    # What a row grades at a run it grades at each run ahead: no sort had more things then.
    row = None if run == 0 else rising(at_run(lot, rates, run - 1))
    return run - 1, row, shared(at_run(lot, rates, run))


def borne(lot):
    """(number, row, pair), or None of one sort."""
    check_scale(lot)
    if len(lot) == 1:
        return None
    return told_of_runs(lot, {name: 1 for name in lot.names()})


def last_run(lot, *, rates):
    """(run, row, pair)."""
    check_scale(lot)
    for name in lot.names():
        if name not in rates:
            raise NoName(name)
    return told_of_runs(lot, rates)
