"""[17] the least thing of a stretch."""

import random
import unittest

from gapgrades.errors import NoName
from gapgrades.lots import Lot
from gapgrades.stretches import least_of
from gapgrades.things import fits
from support import anything, is_plain, refusal, some_lot, some_stretches, things_of

G = 10 ** 9


class Stretches(unittest.TestCase):
    def least(self, rule, told, greatest=(9, 9, 9)):
        lot = Lot([("x", greatest, ("all",)), ("a", greatest, rule), ("y", greatest, ("any", ("all",)))])
        self.assertEqual(least_of(lot, "a"), told)
        self.assertEqual(least_of(lot=lot, name="a"), told)
        self.assertTrue(is_plain(least_of(lot, "a")))
        self.assertEqual(least_of(lot, "x"), (0,) * len(greatest))
        self.assertIsNone(least_of(lot, "y"))

    def test_sizes(self):
        self.least(("size", 0, 4), (4, 0, 0))
        self.least(("size", 2, 9), (0, 0, 9))
        self.least(("size", 1, 0), (0, 0, 0))

    def test_alls(self):
        self.least(("all",), (0, 0, 0))
        self.least(("all", ("all",), ("all", ("all",))), (0, 0, 0))
        self.least(("all", ("size", 0, 4), ("size", 2, 5)), (4, 0, 5))
        self.least(("all", ("all", ("all", ("size", 1, 7)), ("size", 0, 2))), (2, 7, 0))

    def test_several_sizes_of_one_measure(self):
        self.least(("all", ("size", 0, 4), ("size", 0, 6), ("size", 0, 5)), (6, 0, 0))
        self.least(("all", ("size", 0, 6), ("all", ("size", 0, 4), ("size", 1, 1)), ("size", 1, 0)), (6, 1, 0))

    def test_none_of_another_rule(self):
        for rule in (
            ("worth", ("low",), 0), ("worth", ("sum", (1, 0, 0)), 4), ("any", ("size", 0, 4)), ("any", ("all",)),
            ("all", ("worth", ("high",), 1)), ("all", ("size", 0, 4), ("any", ("size", 0, 4))),
            ("all", ("size", 0, 1), ("all", ("size", 1, 1), ("any", ("all",), ("any",)))),
            ("all", ("size", 0, 1), ("all", ("worth", ("times",), 0))),
        ):
            self.least(rule, None)

    def test_great_ones(self):
        sizes = [("size", at, G - at) for at in range(8)]
        self.least(("all", ("all", *sizes[:4]), ("all", *sizes[4:])), tuple(G - at for at in range(8)), (G,) * 8)

    def test_no_name(self):
        lot = Lot([("nut", (5, 5), ("all",)), ("cap", (9, 9), ("worth", ("low",), 6))])
        for name in anything() + ["x", "Nut", ["nut"], ("nut",)]:
            refusal(self, NoName, {"name": name}, least_of, lot, name)
            refusal(self, NoName, {"name": name}, least_of, Lot([]), name)

    def test_the_things_are_all_from_the_least_to_the_greatest(self):
        for seed in range(40):
            lot = some_stretches(random.Random(seed), 1 + seed % 3, 3)
            for name, greatest, rule in lot.sorts():
                least = least_of(lot, name)
                things = things_of((name, greatest, rule))
                self.assertIn(least, things)
                self.assertTrue(all(fits(least, thing) for thing in things))

    def test_what_is_told_of_lots_by_chance(self):
        found = {True: 0, False: 0}
        for seed in range(60):
            lot = some_lot(seed, 2, 3)
            for name, greatest, rule in lot.sorts():
                words = str(rule)
                told = least_of(lot, name)
                self.assertIs(told is None, "any" in words or "worth" in words)
                found[told is None] += 1
                if told is not None:
                    self.assertEqual(told, tuple(map(min, zip(*things_of((name, greatest, rule))))))
        self.assertGreater(min(found.values()), 10)
