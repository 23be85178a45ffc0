"""Rows never seen: what is known of one by what fell where."""

from gapgrades.errors import Against, NoPlace, NoThing
from gapgrades.names import copied, is_whole_from
from gapgrades.things import fits, is_thing, join


def check_thing(seen, thing):
    """Refuse what is no thing of as many measures."""
    if not is_thing(thing) or len(thing) != seen.many_measures:
        raise NoThing()


def check_place(seen, place):
    """Refuse what is neither a hole's place nor the one of out."""
    if not is_whole_from(place, 0, len(seen.least_holes)):
        raise NoPlace(copied(place))


def place_ahead(seen, thing, place):
    """The first place ahead of this one whose hole takes the thing, whatever the row is, or None."""
    for ahead in range(place):
        if fits(thing, seen.least_holes[ahead]):
            return ahead
    return None


def number_past(seen, thing, place):
    """The number of the first fall behind this place that its hole would take if it took the thing, or None."""
    # Out takes whatever comes, and a hole that needn't grow takes nothing that it didn't.
    if place == len(seen.least_holes) or fits(thing, seen.least_holes[place]):
        return None
    hole = join(seen.least_holes[place], thing)
    for number, (fallen, behind) in enumerate(seen.told):
        if behind > place and fits(fallen, hole):
            return number
    return None


def numbers_for(seen, place, thing, base):
    """Numbers of falls at this place, at most one a measure, within whose join with the base the thing is."""
    numbers = []
    for at, measure in enumerate(thing):
        if measure > base[at]:
            fallen = [number for number, fall in enumerate(seen.told) if fall[1] == place and fall[0][at] >= measure]
            numbers.append(fallen[0])
    return sorted(set(numbers))


class Seen:
    """A row never seen, of so many holes: a fall at the place behind the last one is out."""

    def __init__(self, holes, *, measures=1):
        self.many_measures = measures
        self.told = []
        # Every hole takes the thing of all measures 0, and each one takes the join of what fell there.
        self.least_holes = [(0,) * measures for place in range(holes)]

    def saw(self, thing, place):
        """Be told that the thing fell at this place."""
        check_thing(self, thing)
        check_place(self, place)
        ahead = place_ahead(self, thing, place)
        if ahead is not None:
            raise Against(ahead)
        if number_past(self, thing, place) is not None:
            raise Against(copied(place))
        self.told.append((copied(thing), copied(place)))
        if place < len(self.least_holes):
            self.least_holes[place] = join(self.least_holes[place], thing)

    def falls(self):
        """What was told, tuples (thing, place), in order."""
        return list(self.told)

    def places(self, thing):
        """The places at which the thing may fall, rising."""
        check_thing(self, thing)
        # Where a place ahead takes the thing it takes it for all that are behind.
        last = place_ahead(self, thing, len(self.least_holes))
        if last is None:
            last = len(self.least_holes)
        return [place for place in range(last + 1) if number_past(self, thing, place) is None]

    def why(self, thing, place):
        """("holes", holes) by which it falls there; or ("ahead", place, falls) or ("past", number, falls)."""
        check_thing(self, thing)
        check_place(self, place)
        ahead = place_ahead(self, thing, place)
        if ahead is not None:
            return "ahead", ahead, numbers_for(self, ahead, thing, (0,) * self.many_measures)
        number = number_past(self, thing, place)
        if number is not None:
            return "past", number, numbers_for(self, place, self.told[number][0], thing)
        holes = list(self.least_holes)
        if place < len(holes):
            holes[place] = join(holes[place], thing)
        return "holes", holes

    def __eq__(self, other):
        if not isinstance(other, Seen) or self.told != other.told:
            return False
        return len(self.least_holes) == len(other.least_holes) and self.many_measures == other.many_measures
