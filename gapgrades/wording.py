"""Words read: numbers, measures, scales, rules and sorts as texts have them, bounds of numbers aside.

Where words can't be read so, None is told.
"""

from gapgrades.names import is_name
from gapgrades.rules import MOST_PARTS, MOST_RULES_WITHIN
from gapgrades.scales import ALONE, MOST_SCALES_WITHIN, OF_TWO
from gapgrades.things import MOST_MEASURES

FIGURES = "0123456789"
# Each bound has fewer; Python itself refuses to read numbers of some thousands.
MOST_FIGURES = 80


def read_number(word):
    """The number that the word writes."""
    if not 1 <= len(word) <= MOST_FIGURES or not all([sign in FIGURES for sign in word]):
        return None
    if word[0] == "0" and len(word) > 1:
        return None
    return int(word)


def read_measures(word):
    """The tuple of one to eight measures that the word writes."""
    measures = [read_number(part) for part in word.split("x")]
    if len(measures) > MOST_MEASURES or None in measures:
        return None
    return tuple(measures)


def read_name(word):
    """The name that the word is."""
    return word if is_name(word) else None


def word_at(words, place):
    """The word at this place; behind the last one there is None."""
    return words[place] if place < len(words) else None


def number_at(words, place):
    """The number at this place."""
    word = word_at(words, place)
    return None if word is None else read_number(word)


def sum_at(words, place):
    """(scale, place behind it) of a sum whose weights begin at this place, one at the least."""
    weights = []
    weight = number_at(words, place)
    while weight is not None:
        weights.append(weight)
        weight = number_at(words, place + len(weights))
    return (("sum", tuple(weights)), place + len(weights)) if weights else None


def scale_at(words, place, within):
    """(scale, place behind it) of the scale that begins at this place, at most so many within one another."""
    word = word_at(words, place)
    if within == 0:
        return None
    if word in ALONE:
        return (word,), place + 1
    if word == "sum":
        return sum_at(words, place + 1)
    first = scale_at(words, place + 1, within - 1) if word in OF_TWO else None
    second = None if first is None else scale_at(words, first[1], within - 1)
    return None if second is None else ((word, first[0], second[0]), second[1])


def size_at(words, place):
    """(rule, place behind it) of a size whose numbers begin at this place."""
    at = number_at(words, place)
    number = number_at(words, place + 1)
    return None if at is None or number is None else (("size", at, number), place + 2)


def worth_at(words, place):
    """(rule, place behind it) of a worth whose scale begins at this place."""
    found = scale_at(words, place, MOST_SCALES_WITHIN)
    if found is None or word_at(words, found[1]) != "at":
        return None
    number = number_at(words, found[1] + 1)
    return None if number is None else (("worth", found[0], number), found[1] + 2)


def parts_at(words, place, within):
    """(rules, place behind their end) of at most four rules that begin at this place."""
    parts = []
    while word_at(words, place) != "end":
        found = rule_at(words, place, within)
        if found is None or len(parts) == MOST_PARTS:
            return None
        parts.append(found[0])
        place = found[1]
    return parts, place + 1


def rule_at(words, place, within):
    """(rule, place behind it) of the rule that begins at this place, at most so many within one another."""
    word = word_at(words, place)
    if within == 0:
        return None
    if word == "size":
        return size_at(words, place + 1)
    if word == "worth":
        return worth_at(words, place + 1)
    found = parts_at(words, place + 1, within - 1) if word in ("all", "any") else None
    return None if found is None else ((word, *found[0]), found[1])


def read_rule(words):
    """The rule that these words write, all of them."""
    found = rule_at(words, 0, MOST_RULES_WITHIN)
    return found[0] if found is not None and found[1] == len(words) else None


def read_sort(words):
    """The tuple (name, greatest, rule) that these words write, all of them."""
    if len(words) < 5 or words[0] != "sort" or words[3] != "while":
        return None
    sort = (read_name(words[1]), read_measures(words[2]), read_rule(words[4:]))
    return None if None in sort else sort
