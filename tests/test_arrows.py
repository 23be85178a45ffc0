"""[10] arrows and what is shared."""

import itertools
import unittest

from gapgrades.arrows import arrow, shared
from gapgrades.errors import NoName
from gapgrades.lots import Lot
from gapgrades.things import fits, meet
from support import anything, greatest_among, is_plain, refusal, some_lot, things_of

G = 10 ** 9
ALL = ("all",)
LOT = Lot([
    ("nut", (4, 6), ("size", 0, 3)),
    ("cap", (9, 2), ("size", 0, 5)),
    ("pin", (3, 9), ("size", 1, 7)),
])


class Arrows(unittest.TestCase):
    def test_some(self):
        for one, other, thing in (
            ("nut", "cap", (4, 2)), ("cap", "nut", None), ("nut", "pin", (3, 6)), ("pin", "nut", None),
            ("cap", "pin", None), ("pin", "cap", None),
        ):
            self.assertEqual(arrow(LOT, one, other), thing)
            self.assertEqual(arrow(lot=LOT, one=one, other=other), thing)

    def test_of_a_sort_to_itself(self):
        for name, greatest, _ in LOT.sorts():
            self.assertEqual(arrow(LOT, name, name), greatest)

    def test_no_name(self):
        for name in anything() + ["Nut", ["nut"], ("nut",)]:
            refusal(self, NoName, {"name": name}, arrow, LOT, name, "nut")
            refusal(self, NoName, {"name": name}, arrow, LOT, "nut", name)
            refusal(self, NoName, {"name": name}, arrow, LOT, name, name)
            refusal(self, NoName, {"name": name}, arrow, LOT, name, "x")
            refusal(self, NoName, {"name": "x"}, arrow, LOT, "x", name)
            refusal(self, NoName, {"name": name}, arrow, Lot([]), name, "nut")

    def test_against_every_thing(self):
        for seed in range(60):
            lot = some_lot(seed, 1 + seed % 3, 3, most=3)
            for one, other in itertools.product(lot.sorts(), repeat=2):
                fitting = [thing for thing in things_of(one) if fits(thing, other[1])]
                told = arrow(lot, one[0], other[0])
                self.assertEqual(told, greatest_among(self, fitting))
                self.assertTrue(is_plain(told))
                self.assertIn(told, (None, meet(one[1], other[1])))

    def test_the_greatest_measures(self):
        lot = Lot([("a", (G,) * 8, ("worth", ("times",), (G - 1) ** 8)), ("b", (G - 1,) * 8, ALL), ("c", (G - 2,) * 8, ALL)])
        self.assertEqual(arrow(lot, "a", "b"), (G - 1,) * 8)
        self.assertIsNone(arrow(lot, "a", "c"))
        self.assertEqual(arrow(lot, "c", "a"), (G - 2,) * 8)


class Shared(unittest.TestCase):
    def test_two_that_share(self):
        lot = Lot([("a", (4, 6), ("size", 0, 2)), ("b", (9, 3), ("size", 1, 2))])
        self.assertEqual(shared(lot), ("a", "b", (4, 3)))
        self.assertEqual(shared(lot=lot), ("a", "b", (4, 3)))
        self.assertTrue(is_plain(shared(lot)))

    def test_the_place_goes_ahead_of_the_name(self):
        lot = Lot([("z", (4,), ALL), ("a", (5,), ALL)])
        self.assertEqual(shared(lot), ("z", "a", (4,)))

    def test_none(self):
        self.assertIsNone(shared(LOT))
        self.assertIsNone(shared(Lot([])))
        self.assertIsNone(shared(Lot([("a", (5,), ALL)])))

    def test_an_arrow_one_way_is_not_enough(self):
        for sorts in (
            [("a", (5,), ALL), ("b", (9,), ("size", 0, 6))], [("b", (9,), ("size", 0, 6)), ("a", (5,), ALL)],
        ):
            self.assertIsNone(shared(Lot(sorts)))

    def test_just_one_thing(self):
        self.assertEqual(shared(Lot([("a", (5,), ALL), ("b", (9,), ("size", 0, 5))])), ("a", "b", (5,)))

    def test_the_first_two_of_several(self):
        def band(name, least, greatest):
            return name, (greatest,), ("size", 0, least)

        lot = Lot([band("a", 0, 9), band("b", 20, 29), band("c", 25, 39), band("d", 5, 7), band("e", 6, 26)])
        self.assertEqual(shared(lot), ("a", "d", (7,)))
        lot = Lot([band("a", 0, 1), band("b", 20, 29), band("c", 38, 39), band("d", 35, 38), band("e", 22, 37)])
        self.assertEqual(shared(lot), ("b", "e", (29,)))
        lot = Lot([band("a", 0, 1), band("b", 2, 3), band("c", 4, 9), band("d", 7, 8)])
        self.assertEqual(shared(lot), ("c", "d", (8,)))

    def test_against_every_thing(self):
        found = 0
        for seed in range(80):
            lot = some_lot(seed, 1 + seed % 3, 2 + seed % 3, most=5)
            told = None
            for one, other in itertools.combinations(lot.sorts(), 2):
                common = [thing for thing in things_of(one) if lot.has(other[0], thing)]
                if common and told is None:
                    told = one[0], other[0], greatest_among(self, common)
            self.assertEqual(shared(lot), told)
            found += told is not None
        self.assertTrue(0 < found < 80)
