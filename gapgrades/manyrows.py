"""Rows with more holes for as few sorts as can be, of lots of stretches."""

from gapgrades.arrows import shared
from gapgrades.errors import NoStretch, TooMany
from gapgrades.grading import row_or_ring
from gapgrades.needs import needs
from gapgrades.rows import Row
from gapgrades.scales import multiplied
from gapgrades.spreads import falls_right
from gapgrades.stretches import least_in

MOST_CELLS = 40


def least_things(sorts):
    """The least thing of each sort; refused is the first that is no stretch."""
    told = []
    for sort in sorts:
        least = least_in(sort)
        if least is None:
            raise NoStretch(sort[0])
        told.append(least)
    return told


def cuts_at(sorts, leasts, place):
    """The numbers at which a part may begin in this measure, rising."""
    return sorted(set([least[place] for least in leasts] + [sort[1][place] + 1 for sort in sorts]))


def parts_between(low, high, cuts):
    """The parts, tuples of the first and the last number, into which the cuts part one measure."""
    firsts = [low] + [cut for cut in cuts if low < cut <= high]
    lasts = [cut - 1 for cut in firsts[1:]] + [high]
    return list(zip(firsts, lasts))


def parts_of_all(sorts, leasts):
    """For each sort a list of the parts of each measure."""
    many = len(leasts[0]) if leasts else 0
    cuts = [cuts_at(sorts, leasts, place) for place in range(many)]
    return [
        [parts_between(low, high, cut) for low, high, cut in zip(least, sort[1], cuts)]
        for sort, least in zip(sorts, leasts)
    ]


def check_cells(all_parts):
    """Refuse too many cells."""
    many = sum([multiplied([len(part) for part in parts]) for parts in all_parts])
    if many > MOST_CELLS:
        raise TooMany(many)


def cells_of(name, parts):
    """The cells, as sorts of this name, that the parts of all measures make."""
    cells = [((), ())]
    for part in parts:
        cells = [((*least, low), (*greatest, high)) for least, greatest in cells for low, high in part]
    return [
        (name, greatest, ("all", *[("size", place, low) for place, low in enumerate(least)]))
        for least, greatest in cells
    ]


def row_of_cells(lot, all_parts):
    """A row that grades a lot of which no two share: the sorts that meet all rings have a hole for each cell.

    Between cells arrows lead on only, and what leads through cells from a whole sort to another leads
    there without them, too: so the cells are in no ring.
    """
    names = needs(lot)[0]
    pieces = []
    for sort, parts in zip(lot.sorts(), all_parts):
        pieces.extend(cells_of(sort[0], parts) if sort[0] in names else [sort])
    return row_or_ring(pieces, [piece[1] for piece in pieces])[1]


def is_idle(pairs, place, lot):
    """Whether a row that grades the lot does so without the hole at this place, too."""
    # Of all things of the lot only those of the hole's own sort fall there.
    return falls_right(pairs[:place] + pairs[place + 1:], lot.sort_of(pairs[place][1]))


def without_idle(pairs, lot):
    """The holes of a row that grades the lot, without some, so that none is idle.

    They are gone through from the last one on: a hole that isn't idle stays so when holes ahead of
    it go, since what falls at it still does, and would still fall wrong behind it.
    """
    kept = list(pairs)
    for place in reversed(range(len(pairs))):
        if is_idle(kept, place, lot):
            del kept[place]
    return kept


def many_row(lot):
    """("row", row) or ("shared", name, name, thing)."""
    sorts = lot.sorts()
    all_parts = parts_of_all(sorts, least_things(sorts))
    check_cells(all_parts)
    pair = shared(lot)
    if pair is not None:
        return ("shared", *pair)
    return "row", Row(without_idle(row_of_cells(lot, all_parts).holes(), lot))
