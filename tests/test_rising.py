"""[14] the scale of a lot, and its row by rising numbers."""

import random
import unittest

from gapgrades.arrows import shared
from gapgrades.errors import NoScale
from gapgrades.lots import Lot
from gapgrades.rising import rising, scale_of
from gapgrades.rows import Row
from gapgrades.spreads import grades
from support import is_plain, lot_on_scale, refusal, some_scale

SUM = ("sum", (1, 2))


def lot_of(rules):
    """A lot of great sorts with these rules."""
    return Lot([("abcdefghijkl"[at], (50, 50), rule) for at, rule in enumerate(rules)])


class Scales(unittest.TestCase):
    def no_scale(self, rules):
        lot = lot_of(rules)
        self.assertIsNone(scale_of(lot))
        self.assertIsNone(scale_of(lot=lot))
        refusal(self, NoScale, {}, rising, lot)

    def test_no_sorts(self):
        self.no_scale([])

    def test_one_sort(self):
        self.assertEqual(scale_of(lot_of([("worth", SUM, 7)])), SUM)
        self.assertEqual(rising(lot_of([("worth", SUM, 7)])), Row([((50, 50), "a")]))
        self.no_scale([("size", 0, 7)])
        self.no_scale([("all",)])
        self.no_scale([("any", ("worth", SUM, 7))])

    def test_several_sorts(self):
        for scale in (SUM, ("times",), ("low",), ("high",), ("add", SUM, ("lesser", ("low",), ("times",)))):
            lot = lot_of([("worth", scale, number) for number in (7, 0, 7, 50)])
            self.assertEqual(scale_of(lot), scale)
            self.assertEqual(scale_of(lot=lot), scale)
            self.assertTrue(is_plain(scale_of(lot)))

    def test_one_rule_otherwise(self):
        right = ("worth", SUM, 7)
        for other in (
            ("worth", ("low",), 7), ("worth", ("sum", (1, 3)), 7), ("worth", ("sum", (2, 1)), 7), ("all", right),
            ("any", right), ("size", 0, 7), ("size", 1, 0), ("all",), ("worth", ("add", SUM, SUM), 7),
            ("worth", ("lesser", SUM, SUM), 7),
        ):
            for at in range(3):
                rules = [right, right, right]
                rules[at] = other
                self.no_scale(rules)

    def test_scales_that_come_to_the_same_are_not_the_same(self):
        one, other = ("add", ("low",), ("high",)), ("add", ("high",), ("low",))
        self.no_scale([("worth", one, 1), ("worth", other, 1)])


class Rising(unittest.TestCase):
    def names(self, sorts):
        lot = Lot([(name, greatest, ("worth", ("low",), number)) for name, greatest, number in sorts])
        row = rising(lot)
        self.assertIs(type(row), Row)
        self.assertEqual(rising(lot=lot), row)
        self.assertEqual(sorted(row.holes()), sorted((greatest, name) for name, greatest, _ in sorts))
        return "".join(name for _, name in row.holes())

    def test_by_numbers(self):
        self.assertEqual(self.names([("a", (9, 9), 7), ("b", (6, 9), 4), ("c", (3, 9), 0)]), "cba")
        self.assertEqual(self.names([("c", (9, 9), 1), ("b", (6, 9), 2), ("a", (3, 9), 3)]), "cba")
        self.assertEqual(self.names([("a", (99, 99), 10), ("b", (99, 99), 9), ("c", (200, 200), 100)]), "bac")

    def test_alike_ones_by_names(self):
        self.assertEqual(self.names([("c", (9, 9), 3), ("a", (8, 8), 3), ("b", (7, 7), 3)]), "abc")
        self.assertEqual(self.names([("d", (9, 9), 3), ("b", (8, 8), 1), ("c", (7, 7), 3), ("a", (7, 7), 1)]), "abcd")
        self.assertEqual(self.names([("b", (9, 9), 3), ("ab", (9, 9), 3), ("aa", (9, 9), 3)]), "aaabb")

    def test_twelve_sorts(self):
        sorts = [("abcdefghijkl"[at], (10 * at + 9, 10 * at + 5), 10 * at) for at in range(12)]
        for seed in range(10):
            random.Random(seed).shuffle(sorts)
            self.assertEqual(self.names(sorts), "abcdefghijkl")

    def test_great_numbers(self):
        self.assertEqual(self.names([("a", (10 ** 9,) * 2, 10 ** 9), ("b", (10 ** 9,) * 2, 10 ** 9 - 1)]), "ba")
        scale = ("times",)
        lot = Lot([(name, (10 ** 9,) * 8, ("worth", scale, 10 ** 72 - at)) for at, name in enumerate("abc")])
        self.assertEqual(rising(lot).bins(), ["c", "b", "a"])

    def test_it_grades_just_where_none_is_shared(self):
        found = {True: 0, False: 0}
        for seed in range(500):
            chance = random.Random(seed)
            many = 1 + seed % 8
            scale = some_scale(chance, many, 4)
            lot = lot_on_scale(chance, scale, many)
            self.assertEqual(scale_of(lot), scale)
            self.assertIs(grades(rising(lot), lot), shared(lot) is None)
            found[shared(lot) is None] += 1
        self.assertGreater(min(found.values()), 20)
