"""Rows alike: a thing that parts two rows, and places that a row can spare."""

from gapgrades.rows import Row
from gapgrades.things import GREATEST_OF_THINGS, meet


def caps_of(pairs, top):
    """The greatest things that fit the holes, and the greatest one of all, which may be out."""
    return [meet(hole, top) for hole, name in pairs] + [top]


def first_parting(row, other, things):
    """The first of the things that falls into unlike bins by both rows, or None."""
    for thing in things:
        if row.bin_of(thing) != other.bin_of(thing):
            return thing
    return None


def greatest_thing(pairs):
    """The greatest thing of as many measures as these holes have."""
    return (GREATEST_OF_THINGS,) * len(pairs[0][0])


def parting(row, other):
    """A thing that falls into unlike bins by both rows, or by one alone is out; or None."""
    pairs = row.holes()
    others = other.holes()
    if not pairs and not others:
        return None
    top = greatest_thing(pairs or others)
    # Where some thing falls at a place of one and at a place of the other, the meet of both holes does.
    for cap in caps_of(pairs, top):
        thing = first_parting(row, other, [meet(cap, hole) for hole in caps_of(others, top)])
        if thing is not None:
            return thing
    return None


def without(row, place):
    """The row with this place left out."""
    pairs = row.holes()
    return Row(pairs[:place] + pairs[place + 1:])


def is_spared(row, place):
    """Whether the row without this place isn't parted from it."""
    pairs = row.holes()
    hole = pairs[place][0]
    # Only what falls here could part them, and that falls further behind, or out, by the other row.
    caps = caps_of(pairs[place + 1:], greatest_thing(pairs))
    return first_parting(row, without(row, place), [meet(hole, cap) for cap in caps]) is None


def spared(row):
    """The places that are spared, rising."""
    return [place for place in range(len(row)) if is_spared(row, place)]


def bared(row):
    """The row that is left when the greatest spared place is left out as long as there is one."""
    left = row
    # What is needed behind a place that is left out stays needed: what falls there doesn't fit that place.
    for place in reversed(range(len(row))):
        if is_spared(left, place):
            left = without(left, place)
    return left
