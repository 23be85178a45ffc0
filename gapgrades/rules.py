"""Rules: which things a sort keeps as they wear."""

from gapgrades.names import is_whole_from
from gapgrades.scales import is_scale, worth
from gapgrades.things import GREATEST_OF_THINGS

MOST_RULES_WITHIN = 4
MOST_PARTS = 4
# The subset of the language bars exponents above 64.
GREATEST_WORTH = 10 ** 60 * 10 ** 15


def is_size(thing, many):
    """Whether what stands behind the word of a size is a place and a number."""
    if len(thing) != 3:
        return False
    return is_whole_from(thing[1], 0, many - 1) and is_whole_from(thing[2], 0, GREATEST_OF_THINGS)


def is_worth(thing, many):
    """Whether what stands behind the word of a worth is a scale and a number."""
    return len(thing) == 3 and is_scale(thing[1], many) and is_whole_from(thing[2], 0, GREATEST_WORTH)


def is_rule_within(thing, many, within):
    """Whether it is a rule with at most so many within one another."""
    if within == 0 or not isinstance(thing, tuple) or len(thing) == 0:
        return False
    if thing[0] == "size":
        return is_size(thing, many)
    if thing[0] == "worth":
        return is_worth(thing, many)
    if thing[0] not in ("all", "any") or len(thing) > 1 + MOST_PARTS:
        return False
    return all([is_rule_within(part, many, within - 1) for part in thing[1:]])


def is_rule(thing, many):
    """Whether it is a rule for so many measures."""
    return is_rule_within(thing, many, MOST_RULES_WITHIN)


def keeps(rule, thing):
    """Whether the rule keeps the thing."""
    word = rule[0]
    if word == "size":
        return thing[rule[1]] >= rule[2]
    if word == "worth":
        return worth(rule[1], thing) >= rule[2]
    kept = [keeps(part, thing) for part in rule[1:]]
    return all(kept) if word == "all" else any(kept)
