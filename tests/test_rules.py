"""[8] rules."""

import itertools
import random
import unittest

from gapgrades.rules import is_rule, keeps
from support import anything, box, some_rule

G = 10 ** 9
SIZE = ("size", 0, 1)
LOW = ("low",)


def within(depth, word="all"):
    """A rule with so many within one another."""
    rule = SIZE
    for _ in range(depth - 1):
        rule = (word, rule)
    return rule


def scale_within(depth):
    """A scale with so many within one another."""
    scale = LOW
    for _ in range(depth - 1):
        scale = ("add", scale, LOW)
    return scale


class Rules(unittest.TestCase):
    def told(self, thing, many, so):
        with self.subTest(repr((thing, many))[:200]):
            self.assertIs(is_rule(thing, many), so)
            self.assertIs(is_rule(thing=thing, many=many), so)

    def test_each_kind(self):
        for many in range(1, 9):
            for rule in (
                ("size", many - 1, 7), ("worth", ("sum", (2,) * many), 9), ("worth", ("times",), 0), ("all",), ("any",),
                ("all", SIZE), ("any", SIZE, ("worth", LOW, 1)), ("all", ("any",), ("all",)),
            ):
                self.told(rule, many, True)

    def test_places_of_a_size(self):
        for many in range(1, 9):
            for place, so in (
                (0, True), (many - 1, True), (many, False), (many + 1, False), (-1, False), (True, False),
                (False, False), ("0", False), (None, False), ((0,), False), ([], False), (10 ** 80 - 1, False),
            ):
                self.told(("size", place, 5), many, so)

    def test_numbers_of_a_size(self):
        for number, so in (
            (0, True), (1, True), (G, True), (G + 1, False), (-1, False), (True, False), (False, False),
            ("1", False), (None, False), ((1,), False), ([1], False),
        ):
            self.told(("size", 0, number), 1, so)
            self.told(("all", ("size", 1, number)), 2, so)

    def test_numbers_of_a_worth(self):
        for number, so in (
            (0, True), (1, True), (G + 1, True), (10 ** 75, True), (10 ** 75 + 1, False), (10 ** 75 - 1, True),
            (-1, False), (True, False), (False, False), ("1", False), (None, False), ((1,), False), ([1], False),
        ):
            self.told(("worth", LOW, number), 1, so)
            self.told(("any", SIZE, ("worth", ("times",), number)), 2, so)

    def test_scales_of_a_worth(self):
        for scale, so in (
            (("sum", (1, 2)), True), (("sum", (1,)), False), (("sum", (1, 2, 3)), False), (("sum", [1, 2]), False),
            (SIZE, False), ((), False), (None, False), ("low", False), (["low"], False), (("low", 1), False),
        ):
            self.told(("worth", scale, 3), 2, so)

    def test_how_many_parts(self):
        for word in ("all", "any"):
            for many in range(8):
                self.told((word,) + (SIZE,) * many, 1, many <= 4)
                self.told(("all", (word,) + (SIZE,) * many), 1, many <= 4)
            self.told((word, (SIZE, SIZE)), 1, False)
            self.told((word, [SIZE]), 1, False)
            self.told((word, SIZE, None), 1, False)
            self.told((word, SIZE, SIZE, SIZE, ("size", 1, 1)), 1, False)
        for word in ("size", "worth"):
            for parts in ((), (0,), (LOW,), (0, 1, 1), (LOW, 1, 1), (SIZE,), (SIZE, SIZE)):
                self.told((word,) + parts, 2, False)

    def test_rules_within_one_another(self):
        for word in ("all", "any"):
            for depth in range(1, 8):
                self.told(within(depth, word), 1, depth <= 4)
            self.told((word, SIZE, within(3)), 1, True)
            self.told((word, SIZE, within(4)), 1, False)
        self.told(("all", ("any", ("all", ("any",)))), 1, True)
        self.told(("all", ("any", ("all", ("any", ("all",))))), 1, False)

    def test_scales_are_counted_for_themselves(self):
        for depth in range(1, 7):
            worth = ("worth", scale_within(depth), 5)
            self.told(worth, 1, depth <= 4)
            self.told(("all", ("any", ("all", worth))), 1, depth <= 4)
            self.told(("all", ("any", ("all", ("any", worth)))), 1, False)

    def test_of_anything(self):
        for thing in anything():
            self.told(thing, 1, False)
            self.told((thing,), 1, False)
            self.told(("all", thing), 1, False)
            self.told(("any", SIZE, thing), 1, False)
            self.told(("worth", thing, 1), 1, False)
            self.told(("worth", thing, 1), 2, False)
        for rule in (["all"], ["size", 0, 1], "all", ("ALL",), ("end",), ("low",), ({},), ([],), (None, 0, 1)):
            self.told(rule, 1, False)
        self.told(within(30), 1, False)
        self.told(("worth", scale_within(29), 1), 1, False)


class Keeps(unittest.TestCase):
    def kept(self, rule, thing, so):
        with self.subTest(repr((rule, thing))):
            self.assertIs(keeps(rule, thing), so)
            self.assertIs(keeps(rule=rule, thing=thing), so)

    def test_size(self):
        for measure, so in ((4, False), (5, True), (6, True), (0, False), (G, True)):
            self.kept(("size", 1, 5), (9, measure, 0), so)
        self.kept(("size", 0, 0), (0,), True)
        self.kept(("size", 0, G), (G,), True)
        self.kept(("size", 0, G), (G - 1,), False)

    def test_worth(self):
        for thing, so in (((2, 5), False), ((2, 6), True), ((3, 4), True), ((0, 99), False)):
            self.kept(("worth", ("times",), 12), thing, so)
        self.kept(("worth", ("times",), G ** 8), (G,) * 8, True)
        self.kept(("worth", ("times",), G ** 8 + 1), (G,) * 8, False)
        self.kept(("worth", ("times",), G ** 8), (G,) * 7 + (G - 1,), False)
        self.kept(("worth", LOW, 0), (0,), True)
        self.kept(("worth", LOW, 10 ** 75), (G,), False)

    def test_all_and_any(self):
        one, other = ("size", 0, 3), ("size", 1, 3)
        for thing, both, some in (((3, 3), True, True), ((3, 2), False, True), ((2, 3), False, True), ((2, 2), False, False)):
            self.kept(("all", one, other), thing, both)
            self.kept(("any", one, other), thing, some)
            self.kept(("all", ("any", one, other), ("all",)), thing, some)
            self.kept(("any", ("all", one, other), ("any",)), thing, both)

    def test_of_none(self):
        for thing in ((0,), (G,), (0,) * 8, (G,) * 8):
            self.kept(("all",), thing, True)
            self.kept(("any",), thing, False)
            self.kept(("all", ("any",)), thing, False)
            self.kept(("any", ("all",)), thing, True)

    def test_four_parts(self):
        parts = tuple(("size", place, 1) for place in range(4))
        for thing in itertools.product((0, 1), repeat=4):
            self.kept(("all",) + parts, thing, min(thing) == 1)
            self.kept(("any",) + parts, thing, max(thing) == 1)

    def test_what_keeps_a_thing_keeps_each_greater_one(self):
        chance = random.Random(3)
        for _ in range(80):
            rule = some_rule(chance, 2, 4)
            self.assertTrue(is_rule(rule, 2))
            for thing in box((0, 0), (4, 4)):
                if keeps(rule, thing):
                    self.assertTrue(keeps(rule, (thing[0] + 1, thing[1])) and keeps(rule, (thing[0], thing[1] + 1)))
