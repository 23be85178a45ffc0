"""Play: how far a measure of a hole may be cut otherwise while the row grades."""

from gapgrades.errors import NoPlace
from gapgrades.names import copied, is_whole_from
from gapgrades.putting import check_graded
from gapgrades.rows import Row
from gapgrades.searches import last_holding
from gapgrades.spreads import falls_right, first_wrong
from gapgrades.things import GREATEST_OF_HOLES


def check_place(place, many):
    """Refuse what is no place from 0 on below so many."""
    if not is_whole_from(place, 0, many - 1):
        raise NoPlace(copied(place))


def recut(pairs, place, measure, number):
    """The holes, with this number as that measure of the one at this place."""
    hole, name = pairs[place]
    cut = (*hole[:measure], number, *hole[measure + 1:])
    return [*pairs[:place], (cut, name), *pairs[place + 1:]]


def grades_recut(pairs, lot, place, measure, number):
    """Whether the holes so cut grade the lot."""
    cut = recut(pairs, place, measure, number)
    return all([falls_right(cut, sort) for sort in lot.sorts()])


def wrong_recut(pairs, lot, place, measure, number):
    """What is first wrong by the holes so cut, or None where the number is no hole's measure."""
    if not is_whole_from(number, 0, GREATEST_OF_HOLES):
        return None
    return first_wrong(Row(recut(pairs, place, measure, number)), lot)


def play(row, lot, place, measure):
    """(low, high, below, above): from which to which number the row grades, and what is wrong beyond."""
    check_graded(row, lot)
    pairs = row.holes()
    check_place(place, len(pairs))
    check_place(measure, len(pairs[0][0]))
    now = pairs[place][0][measure]
    # A lesser hole loses things of its own sort only, a greater one takes others' only: so both ends are sharp.
    less = last_holding(lambda much: grades_recut(pairs, lot, place, measure, now - much), 0, now)
    high = last_holding(lambda number: grades_recut(pairs, lot, place, measure, number), now, GREATEST_OF_HOLES)
    low = now - less
    below = wrong_recut(pairs, lot, place, measure, low - 1)
    above = wrong_recut(pairs, lot, place, measure, high + 1)
    return low, high, below, above
