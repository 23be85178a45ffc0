"""[13] a row or a ring, and [4] what is promised of them."""

import itertools
import random
import unittest

from gapgrades.arrows import arrow, shared
from gapgrades.grading import graded
from gapgrades.lots import Lot
from gapgrades.rows import Row
from gapgrades.spreads import grades
from gapgrades.things import fits
from support import box, is_plain, lot_on_scale, ring_sorts, some_lot, some_scale

G = 10 ** 9
ALL = ("all",)


def rows_of_greatest(lot):
    """Every row with one hole a sort, just its greatest thing."""
    for order in itertools.permutations(lot.sorts()):
        yield Row([(greatest, name) for name, greatest, _ in order])


class Graded(unittest.TestCase):
    def check_row(self, lot, row):
        self.assertIs(type(row), Row)
        self.assertTrue(grades(row, lot))
        self.assertEqual(sorted(row.holes()), sorted((greatest, name) for name, greatest, _ in lot.sorts()))

    def check_ring(self, lot, links):
        self.assertTrue(type(links) is list and is_plain(links))
        self.assertGreaterEqual(len(links), 2)
        names = [name for name, _ in links]
        self.assertEqual(len(set(names)), len(names))
        for (name, thing), (other, _) in zip(links, links[1:] + links[:1]):
            self.assertTrue(lot.has(name, thing))
            self.assertTrue(fits(thing, lot.sort_of(other)[1]))

    def check(self, lot, kind=None):
        told = graded(lot)
        self.assertIs(type(told), tuple)
        self.assertEqual(len(told), 2)
        self.assertIn(told[0], ("row", "ring") if kind is None else (kind,))
        (self.check_row if told[0] == "row" else self.check_ring)(lot, told[1])
        self.assertEqual(graded(lot=lot), told)
        return told

    def test_no_sorts_and_one(self):
        self.assertEqual(graded(Lot([])), ("row", Row([])))
        self.assertEqual(graded(Lot([("a", (3, 4), ALL)])), ("row", Row([((3, 4), "a")])))

    def test_a_row(self):
        lot = Lot([("big", (9, 9), ("worth", ("low",), 7)), ("mid", (6, 6), ("size", 0, 4)), ("low", (3, 9), ALL)])
        self.assertEqual(graded(lot), ("row", Row([((3, 9), "low"), ((6, 6), "mid"), ((9, 9), "big")])))

    def test_up_to_twelve_sorts_with_a_row(self):
        for many in range(13):
            for measures in (1, 2, 8):
                sorts = [
                    ("abcdefghijkl"[at], (10 * at + 9,) * measures, ("worth", ("low",), 10 * at)) for at in range(many)
                ]
                random.Random(many).shuffle(sorts)
                told = self.check(Lot(sorts), "row")
                self.assertEqual([name for _, name in told[1].holes()], list("abcdefghijkl"[:many]))

    def test_two_that_share(self):
        lot = Lot([("a", (9, 4), ("size", 0, 2)), ("b", (4, 9), ("size", 1, 2))])
        self.assertEqual(sorted(self.check(lot, "ring")[1]), [("a", (4, 4)), ("b", (4, 4))])

    def test_two_equal_sorts(self):
        self.check(Lot([("a", (5,), ALL), ("b", (5,), ALL)]), "ring")
        self.check(Lot([("a", (0,), ALL), ("b", (0,), ALL)]), "ring")
        self.check(Lot([("a", (G,) * 8, ALL), ("b", (G,) * 8, ("worth", ("times",), G ** 8))]), "ring")

    def test_rings_without_a_shared_thing(self):
        for many in range(3, 9):
            sorts = ring_sorts(many)
            for turn in range(many):
                lot = Lot(sorts[turn:] + sorts[:turn])
                self.assertIsNone(shared(lot))
                links = self.check(lot, "ring")[1]
                self.assertEqual(len(links), many)
                self.check(Lot(lot.sorts()[1:]), "row")

    def test_twelve_sorts_of_eight_measures(self):
        more = [("ijkl"[at], (10 ** (at + 1),) * 8, ("worth", ("low",), 5 * 10 ** at)) for at in range(4)]
        for seed in range(10):
            sorts = ring_sorts(8) + more
            random.Random(seed).shuffle(sorts)
            links = self.check(Lot(sorts), "ring")[1]
            self.assertEqual(sorted(name for name, _ in links), list("abcdefgh"))
            self.check(Lot([sort for sort in sorts if sort[0] != "d"]), "row")
        for seed in range(20):
            self.check(some_lot(seed, 8, 12, most=30))

    def test_a_ring_behind_a_free_sort(self):
        sorts = [("free", (0, 0, 0), ALL)] + ring_sorts(3) + [("last", (9, 9, 9), ("worth", ("low",), 8))]
        for order in itertools.permutations(sorts):
            self.assertEqual(sorted(name for name, _ in self.check(Lot(order), "ring")[1]), ["a", "b", "c"])

    def test_a_told_list_is_a_new_one(self):
        lot = Lot(ring_sorts(3))
        graded(lot)[1].clear()
        self.check(lot, "ring")

    def test_the_lot_stays(self):
        sorts = ring_sorts(4)
        lot = Lot(sorts)
        graded(lot)
        self.assertEqual(lot.sorts(), sorts)


class Promise(unittest.TestCase):
    def test_just_one_of_both(self):
        found = {"row": 0, "ring": 0}
        for seed in range(300):
            lot = some_lot(seed, 1 + seed % 4, 1 + seed % 4, most=5)
            kind = graded(lot)[0]
            self.assertIs(any(grades(row, lot) for row in rows_of_greatest(lot)), kind == "row")
            found[kind] += 1
        self.assertGreater(min(found.values()), 20)

    def test_a_ring_bars_every_row_with_one_hole_a_sort(self):
        tried = 0
        for seed in range(40):
            lot = some_lot(seed, 2, 2, most=3)
            if graded(lot)[0] == "ring":
                tried += 1
                for holes in itertools.product(box((0, 0), (4, 4)), repeat=2):
                    self.assertFalse(grades(Row(list(zip(holes, "ab"))), lot))
                    self.assertFalse(grades(Row(list(zip(holes, "ba"))), lot))
        self.assertGreater(tried, 3)

    def test_a_ring_of_three_bars_every_row_of_three_holes(self):
        lot = Lot(ring_sorts(3))
        for names in itertools.permutations("abc"):
            for holes in itertools.product(box((1, 1, 1), (2, 2, 2)), repeat=3):
                self.assertFalse(grades(Row(list(zip(holes, names))), lot))

    def test_in_one_or_two_measures_a_ring_only_where_two_share(self):
        found = {"row": 0, "ring": 0}
        for seed in range(600):
            lot = some_lot(seed, 1 + seed % 2, 2 + seed % 5, most=12)
            kind = graded(lot)[0]
            self.assertIs(shared(lot) is None, kind == "row")
            found[kind] += 1
        self.assertGreater(min(found.values()), 10)

    def test_on_one_scale_a_ring_only_where_two_share(self):
        found = {"row": 0, "ring": 0}
        for seed in range(600):
            chance = random.Random(seed)
            many = 1 + seed % 8
            scale = some_scale(chance, many, 4)
            lot = lot_on_scale(chance, scale, many)
            kind = graded(lot)[0]
            self.assertIs(shared(lot) is None, kind == "row")
            found[kind] += 1
        self.assertGreater(min(found.values()), 20)

    def test_arrows_lead_on_only(self):
        for seed in range(100):
            lot = some_lot(seed, 3, 4, most=9)
            kind, row = graded(lot)
            if kind == "row":
                names = [name for _, name in row.holes()]
                for elder, later in itertools.combinations(names, 2):
                    self.assertIsNone(arrow(lot, later, elder))
