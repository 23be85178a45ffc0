"""[17] rows with more holes, of stretches."""

import itertools
import random
import unittest

from gapgrades.arrows import shared
from gapgrades.errors import NoStretch, TooMany
from gapgrades.lots import Lot
from gapgrades.manyrows import many_row
from gapgrades.needs import needs
from gapgrades.rows import Row
from gapgrades.spreads import grades
from gapgrades.stretches import least_of
from support import is_plain, refusal, ring_sorts, some_apart, some_stretches, stretch

G = 10 ** 9
ALL = ("all",)
NONE = ("bad", (9, 9), ("any", ("all",)))


def cells(lot):
    """How many cells there are, by the words of [17]."""
    many = 0
    leasts = {name: least_of(lot, name) for name in lot.names()}
    for name, greatest, _ in lot.sorts():
        product = 1
        for place in range(lot.measures()):
            numbers = {leasts[other][place] for other in leasts}
            numbers |= {other[1][place] + 1 for other in lot.sorts()}
            product *= 1 + sum(leasts[name][place] < number <= greatest[place] for number in numbers)
        many += product
    return many


def two_walls(bands):
    """Two tall stretches of one width each, and beside them one stretch for each band of heights."""
    sorts = [stretch("a", (0, 0), (0, 100)), stretch("b", (1, 0), (1, 100))]
    for at, (low, high) in enumerate(bands):
        sorts.append(stretch("cdefghijkl"[at], (2 + at, low), (2 + at, high)))
    return Lot(sorts)


# Bands that touch have a cut in common. 40: ten bands with 14 cuts, two walls of 15; 41: nine with 15.
FORTY = two_walls([(5 * at + (at > 6) + (at > 7) + (at > 8) + 1, 5 * at + (at > 6) + (at > 7) + (at > 8) + 5)
                   for at in range(10)])
FORTY_ONE = two_walls([(6 * at + 1 - min(at, 3), 6 * at + 5 - min(at, 3)) for at in range(9)])


class ManyRows(unittest.TestCase):
    def check(self, lot):
        told = many_row(lot)
        self.assertEqual(many_row(lot=lot), told)
        self.assertTrue(type(told) is tuple and len(told) == 2)
        self.assertEqual(told[0], "row")
        row = told[1]
        self.assertIs(type(row), Row)
        self.assertTrue(grades(row, lot))
        bins = [name for _, name in row.holes()]
        self.assertEqual(sum(bins.count(name) > 1 for name in set(bins)), len(needs(lot)[0]))
        for at in range(len(row)):
            self.assertFalse(grades(Row(row.holes()[:at] + row.holes()[at + 1:]), lot))
        return row

    def test_no_sorts_and_one(self):
        self.assertEqual(many_row(Lot([])), ("row", Row([])))
        self.assertEqual(self.check(Lot([("a", (3, 4), ALL)])), Row([((3, 4), "a")]))
        self.assertEqual(self.check(Lot([("a", (G,) * 8, ("size", 7, G))])), Row([((G,) * 8, "a")]))

    def test_without_a_ring(self):
        lot = Lot([stretch("b", (5,), (9,)), stretch("a", (0,), (4,)), stretch("c", (10,), (10,))])
        self.assertEqual(self.check(lot), Row([((4,), "a"), ((9,), "b"), ((10,), "c")]))

    def test_one_ring_of_three_that_share_nothing(self):
        for order in itertools.permutations(ring_sorts(3)):
            row = self.check(Lot(order))
            self.assertEqual(len(row), 4)

    def test_longer_rings(self):
        for many in range(4, 7):
            self.check(Lot(ring_sorts(many)))

    def test_two_rings(self):
        sorts = ring_sorts(3)
        later = [
            stretch("def"[at], [10 + 2 * (place == at) for place in range(3)], [10 + part for part in greatest])
            for at, (_, greatest, _) in enumerate(sorts)
        ]
        for seed in range(6):
            lot = Lot(random.Random(seed).sample(sorts + later, 6))
            bins = [name for _, name in self.check(lot).holes()]
            self.assertEqual(len([name for name in "abcdef" if bins.count(name) > 1]), 2)

    def test_two_that_share(self):
        lot = Lot([stretch("a", (0, 0), (4, 6)), stretch("b", (9, 9), (9, 9)), stretch("c", (2, 3), (9, 3))])
        self.assertEqual(many_row(lot), ("shared", "a", "c", (4, 3)))
        self.assertEqual(many_row(lot=lot), ("shared", *shared(lot)))
        self.assertTrue(is_plain(many_row(lot)))
        self.assertEqual(many_row(Lot([("z", (5,), ALL), ("a", (5,), ALL)])), ("shared", "z", "a", (5,)))

    def test_forty_cells_and_one_more(self):
        self.assertEqual((cells(FORTY), cells(FORTY_ONE)), (40, 41))
        self.check(FORTY)
        refusal(self, TooMany, {"many": 41}, many_row, FORTY_ONE)

    def test_far_too_many(self):
        sorts = [stretch("abcdefghijkl"[at], (2 * at,) * 8, (100 - at,) * 8) for at in range(12)]
        lot = Lot(sorts)
        refusal(self, TooMany, {"many": cells(lot)}, many_row, lot)
        self.assertGreater(cells(lot), 23 ** 8)

    def test_no_stretch(self):
        right = stretch("a", (0, 0), (3, 3))
        for rule in (("any", ALL), ("worth", ("low",), 0), ("all", ("any", ("size", 0, 1)))):
            sort = ("bad", (9, 9), rule)
            refusal(self, NoStretch, {"name": "bad"}, many_row, Lot([sort]))
            refusal(self, NoStretch, {"name": "bad"}, many_row, Lot([right, sort]))
            refusal(self, NoStretch, {"name": "bad"}, many_row, Lot([right, sort, ("abad", (9, 9), rule)]))

    def test_the_first_refusal_that_is_due(self):
        many = FORTY_ONE.sorts()
        refusal(self, NoStretch, {"name": "bad"}, many_row, Lot(many + [NONE]))
        refusal(self, NoStretch, {"name": "bad"}, many_row, Lot([NONE] + many))
        wide = stretch("x", (0, 0), (99, 100))
        lot = Lot(many + [wide])
        self.assertIsNotNone(shared(lot))
        refusal(self, TooMany, {"many": cells(lot)}, many_row, lot)
        refusal(self, NoStretch, {"name": "bad"}, many_row, Lot([NONE, ("b", (9, 9), ALL)]))

    def test_great_numbers(self):
        sorts = [
            (name, tuple(G if measure == 2 else G // 2 for measure in greatest), ("size", place, G))
            for name, greatest, (_, place, _) in ring_sorts(4)
        ]
        self.assertEqual(len(needs(Lot(sorts))[0]), 1)
        self.check(Lot(sorts))

    def test_lots_by_chance(self):
        found = {"refused": 0}
        for seed in range(900):
            lot = some_apart(random.Random(seed), 3 + seed % 6)
            if cells(lot) > 40:
                found["refused"] += 1
                refusal(self, TooMany, {"many": cells(lot)}, many_row, lot)
                continue
            self.check(lot)
            many = len(needs(lot)[0])
            found[many] = found.get(many, 0) + 1
        self.assertGreater(min(found.get(many, 0) for many in (0, 1, 2, "refused")), 4)

    def test_a_row_just_where_none_is_shared(self):
        found = {"row": 0, "shared": 0}
        for seed in range(150):
            lot = some_stretches(random.Random(seed), 1 + seed % 3, 2 + seed % 2, most=9)
            if cells(lot) <= 40:
                kind = many_row(lot)[0]
                self.assertEqual(kind, "row" if shared(lot) is None else "shared")
                found[kind] += 1
        self.assertGreater(min(found.values()), 20)

    def test_what_is_told_changes_nothing(self):
        lot = Lot(ring_sorts(3))
        told = many_row(lot)[1]
        told.holes().clear()
        self.assertEqual(many_row(lot)[1], told)
        self.assertEqual(lot.sorts(), ring_sorts(3))
