"""Things and holes: tuples of measures."""

from gapgrades.names import is_whole_from

MOST_MEASURES = 8
GREATEST_OF_THINGS = 10 ** 9
GREATEST_OF_HOLES = 4 * 10 ** 9


def are_measures(thing, greatest):
    """Whether it is a tuple of one to eight measures, none above the greatest one."""
    if not isinstance(thing, tuple) or not 1 <= len(thing) <= MOST_MEASURES:
        return False
    return all([is_whole_from(measure, 0, greatest) for measure in thing])


def is_thing(thing):
    """Whether it is a thing."""
    return are_measures(thing, GREATEST_OF_THINGS)


def is_hole(thing):
    """Whether it is a hole."""
    return are_measures(thing, GREATEST_OF_HOLES)


def fits(thing, hole):
    """Whether no measure of the thing is greater than the hole's at the same place."""
    return all([measure <= room for measure, room in zip(thing, hole)])


def meet(one, other):
    """The lesser of both at each place."""
    return tuple([int(min(first, second)) for first, second in zip(one, other)])


def join(one, other):
    """The greater of both at each place."""
    return tuple([int(max(first, second)) for first, second in zip(one, other)])


def widened(hole, room):
    """The hole with so much added to each measure, perhaps beyond the bounds of holes."""
    return tuple([measure + room for measure in hole])


def written(thing):
    """The measures as texts have them, as in 3x4x5."""
    return "x".join([str(measure) for measure in thing])
