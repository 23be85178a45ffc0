"""Scales: what a thing is worth."""

from gapgrades.names import is_whole_from

MOST_SCALES_WITHIN = 4
GREATEST_WEIGHT = 1000
ALONE = ("times", "low", "high")
OF_TWO = ("add", "lesser", "greater")


def are_weights(thing, many):
    """Whether it is a tuple of so many weights."""
    if not isinstance(thing, tuple) or len(thing) != many:
        return False
    return all([is_whole_from(weight, 0, GREATEST_WEIGHT) for weight in thing])


def is_scale_within(thing, many, within):
    """Whether it is a scale with at most so many within one another."""
    if within == 0 or not isinstance(thing, tuple) or len(thing) == 0:
        return False
    if thing[0] in ALONE:
        return len(thing) == 1
    if thing[0] == "sum":
        return len(thing) == 2 and are_weights(thing[1], many)
    if thing[0] in OF_TWO and len(thing) == 3:
        return all([is_scale_within(part, many, within - 1) for part in thing[1:]])
    return False


def is_scale(thing, many):
    """Whether it is a scale for so many measures."""
    return is_scale_within(thing, many, MOST_SCALES_WITHIN)


def multiplied(thing):
    """All measures multiplied."""
    product = 1
    for measure in thing:
        product *= measure
    return product


def worth_of_two(word, one, other):
    """The worth that the word makes of two worths."""
    if word == "add":
        return one + other
    if word == "lesser":
        return min(one, other)
    return max(one, other)


def worth(scale, thing):
    """The worth of the thing on the scale."""
    word = scale[0]
    if word == "sum":
        return sum([weight * measure for weight, measure in zip(scale[1], thing)])
    if word == "times":
        return multiplied(thing)
    if word == "low":
        return int(min(thing))
    if word == "high":
        return int(max(thing))
    return worth_of_two(word, worth(scale[1], thing), worth(scale[2], thing))
