"""What several tests need: odd things, a check of refusals, and small lots and rows by chance."""

import itertools
import random

from gapgrades.arrows import shared
from gapgrades.lots import Lot
from gapgrades.rows import Row
from gapgrades.rules import keeps
from gapgrades.scales import worth
from gapgrades.things import fits


def deep(kind, depth):
    """So many tuples, lists or dicts within one another."""
    thing = kind()
    for _ in range(depth - 1):
        thing = {"a": thing} if kind is dict else kind([thing])
    return thing


def anything():
    """Things of each kind that may be handed in where the document says 'of anything'."""
    return [
        None, True, False, 0, 1, -1, 10 ** 80 - 1, 1 - 10 ** 80, "", "a", "A", "abcdefghi", "size", "3x4",
        (), ((),), (None,), ("",), (True,), ("a", (1,), ("all",), 1), ("sum",), ("low", "low"), ("all", None),
        ("size",), ("worth",), ("add",), ("add", ("low",)), ("size", None, None), ("worth", (), []),
        [], [[]], [None], [1], ["a"], [("a",)], {}, {"a": 1}, {1: []}, {"place": {}}, {(1, 2): None},
        deep(tuple, 30), deep(list, 30), deep(dict, 30),
    ]


def refusal(test, error, fields, call, *args, **more):
    """Check that a call is refused by just this class, with just these fields."""
    with test.assertRaises(error) as caught:
        call(*args, **more)
    test.assertIs(type(caught.exception), error)
    test.assertEqual(vars(caught.exception), fields)
    for name, value in fields.items():
        test.assertIs(type(getattr(caught.exception, name)), type(value))


def is_plain(thing):
    """Whether it is all through of Python's own plain kinds."""
    if type(thing) in (tuple, list):
        return all(is_plain(part) for part in thing)
    if type(thing) is dict:
        return all(is_plain(key) and is_plain(part) for key, part in thing.items())
    return thing is None or type(thing) in (int, str, bool)


def box(least, greatest):
    """Every thing from the least to the greatest one."""
    return itertools.product(*[range(low, high + 1) for low, high in zip(least, greatest)])


def things_of(sort):
    """Every thing of a small sort."""
    return [thing for thing in box((0,) * len(sort[1]), sort[1]) if keeps(sort[2], thing)]


def greatest_among(test, things):
    """The one of these things that all others fit, or None without things."""
    if not things:
        return None
    tops = [top for top in things if all(fits(thing, top) for thing in things)]
    test.assertEqual(len(tops), 1)
    return tops[0]


def some_thing(chance, many, most):
    """A thing, or a hole, of small measures."""
    return tuple(chance.randint(0, most) for _ in range(many))


def some_scale(chance, many, within=3):
    """A scale."""
    word = chance.choice(["sum", "times", "low", "high", "add", "lesser", "greater"][: 7 if within > 1 else 4])
    if word == "sum":
        return word, tuple(chance.randint(0, 3) for _ in range(many))
    if word in ("times", "low", "high"):
        return (word,)
    return word, some_scale(chance, many, within - 1), some_scale(chance, many, within - 1)


def some_rule(chance, many, most, within=3):
    """A rule."""
    word = chance.choice(["size", "worth", "all", "any"][: 4 if within > 1 else 2])
    if word == "size":
        return word, chance.randrange(many), chance.randint(0, most)
    if word == "worth":
        return word, some_scale(chance, many), chance.randint(0, 2 * most)
    parts = [some_rule(chance, many, most, within - 1) for _ in range(chance.randint(0, 3))]
    return (word, *parts)


def some_sort(chance, name, many, most):
    """A sort of small measures that has its greatest thing."""
    while True:
        greatest, rule = some_thing(chance, many, most), some_rule(chance, many, most)
        if keeps(rule, greatest):
            return name, greatest, rule


def some_lot(seed, many, sorts, most=4):
    """A lot of so many sorts and measures, the same for the same seed."""
    chance = random.Random(seed)
    return Lot([some_sort(chance, "abcdefghijkl"[place], many, most) for place in range(sorts)])


def some_row(seed, many, holes, names="abc", most=5):
    """A row of so many holes and measures, the same for the same seed."""
    chance = random.Random(seed)
    return Row([(some_thing(chance, many, most), chance.choice(names)) for _ in range(holes)])


def ring_sorts(many):
    """As many sorts as measures, three or more, in one ring, of which no two share a thing.

    Each sort needs 2 in its own measure; its greatest thing has 2 there and where the one ahead
    needs it, 1 elsewhere: so the things of a sort fit the next one's greatest, and no other's.
    """
    return [
        ("abcdefgh"[at], tuple(2 if place in (at, (at - 1) % many) else 1 for place in range(many)), ("size", at, 2))
        for at in range(many)
    ]


def lot_on_scale(chance, scale, many):
    """A lot of two to four sorts whose rules are worths on this scale."""
    sorts = []
    for name in "abcd"[: chance.randint(2, 4)]:
        greatest = some_thing(chance, many, 9)
        number = max(0, worth(scale, greatest) - chance.randint(0, 2))
        sorts.append((name, greatest, ("worth", scale, number)))
    return Lot(sorts)


def lot_of_arrows(pairs, many):
    """A lot of so many sorts, up to eight, a, b and so on, with just these arrows, tuples of two names.

    Each sort needs 2 in its own measure: its things fit those greatest ones that have 2 there.
    """
    names = "abcdefgh"[:many]
    return Lot([
        (name, tuple(2 if one == name or (one, name) in pairs else 1 for one in names), ("size", at, 2))
        for at, name in enumerate(names)
    ])


def some_arrows(chance, many, share):
    """A lot of so many sorts with arrows by chance, about this share, in hundredths, of all there may be."""
    pairs = [pair for pair in itertools.permutations("abcdefgh"[:many], 2) if chance.randint(1, 100) <= share]
    return lot_of_arrows(pairs, many)


def stretch(name, least, greatest):
    """A sort of all things from the least to the greatest one."""
    sizes = [("size", at, low) for at, low in enumerate(least)]
    return name, tuple(greatest), ("all", ("all", *sizes[:4]), ("all", *sizes[4:]))


def some_stretches(chance, many, sorts, most=4):
    """Stretches by chance."""
    told = []
    for name in "abcdefghijkl"[:sorts]:
        one, other = some_thing(chance, many, most), some_thing(chance, many, most)
        told.append(stretch(name, [min(pair) for pair in zip(one, other)], [max(pair) for pair in zip(one, other)]))
    return Lot(told)


def some_apart(chance, many):
    """A lot of stretches, so many and up to four more, with arrows by chance, of which no two share a thing."""
    pairs = [
        chance.choice([pair, pair[::-1]]) for pair in itertools.combinations("abcdefgh"[:many], 2)
        if chance.random() < 0.5
    ]
    sorts = lot_of_arrows(pairs, many).sorts()
    for name in "wxyz"[: chance.randint(0, 4)]:
        one, other = some_thing(chance, many, 3), some_thing(chance, many, 3)
        sort = stretch(name, [min(pair) for pair in zip(one, other)], [max(pair) for pair in zip(one, other)])
        if shared(Lot(sorts + [sort])) is None:
            sorts.append(sort)
    chance.shuffle(sorts)
    return Lot(sorts)

