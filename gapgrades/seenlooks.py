"""Looks at why a thing may fall at a place of a row never seen, or can't."""

from gapgrades.names import is_list, is_whole_from
from gapgrades.seen import check_place, check_thing
from gapgrades.things import fits, is_hole, join


def place_by(holes, thing):
    """The place at which the thing falls by these holes; the one behind the last is out."""
    for place, hole in enumerate(holes):
        if fits(thing, hole):
            return place
    return len(holes)


def are_holes(seen, thing):
    """Whether it is a list of as many holes, of as many measures, as the row never seen has."""
    if not is_list(thing) or len(thing) != len(seen.least_holes):
        return False
    return all([is_hole(hole) and len(hole) == seen.many_measures for hole in thing])


def shows_holes(seen, thing, place, holes):
    """Whether by these holes all that was told fell so, and the thing falls at this place."""
    if not are_holes(seen, holes):
        return False
    return all([place_by(holes, fallen) == at for fallen, at in [*seen.falls(), (thing, place)]])


def is_number(seen, thing):
    """Whether it is the number of a fall that was told."""
    return is_whole_from(thing, 0, len(seen.told) - 1)


def are_numbers(seen, thing, place):
    """Whether it is a list of numbers of falls at this place, rising, each once, at most one a measure."""
    if not is_list(thing) or len(thing) > seen.many_measures or not all([is_number(seen, part) for part in thing]):
        return False
    if not all([one < other for one, other in zip(thing, thing[1:])]):
        return False
    return all([seen.told[number][1] == place for number in thing])


def is_within(seen, thing, base, numbers):
    """Whether the thing is within the join of the base and these falls."""
    hole = base
    for number in numbers:
        hole = join(hole, seen.told[number][0])
    return fits(thing, hole)


def shows_ahead(seen, thing, place, ahead, numbers):
    """Whether these falls at a place ahead of this one take the thing."""
    if not is_whole_from(ahead, 0, place - 1) or not are_numbers(seen, numbers, ahead):
        return False
    return is_within(seen, thing, (0,) * seen.many_measures, numbers)


def shows_past(seen, thing, place, number, numbers):
    """Whether a fall behind this place would be taken here, by these falls and the thing."""
    if not is_number(seen, number) or not are_numbers(seen, numbers, place):
        return False
    fallen, behind = seen.told[number]
    return behind > place and is_within(seen, fallen, thing, numbers)


def shows_why(seen, thing, place, paper):
    """Whether the paper shows that the thing may fall at this place, or can't, as why tells it."""
    check_thing(seen, thing)
    check_place(seen, place)
    if not isinstance(paper, tuple) or len(paper) not in (2, 3):
        return False
    if len(paper) == 2:
        return paper[0] == "holes" and shows_holes(seen, thing, place, paper[1])
    if paper[0] == "ahead":
        return shows_ahead(seen, thing, place, paper[1], paper[2])
    return paper[0] == "past" and shows_past(seen, thing, place, paper[1], paper[2])
