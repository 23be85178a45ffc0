"""[22] a row whose holes grow."""

import random
import unittest

from gapgrades.errors import NotOne
from gapgrades.growth import row_lasts
from gapgrades.lots import Lot
from gapgrades.rows import Row
from gapgrades.spreads import grades
from support import refusal, ring_sorts, some_lot

G = 10 ** 9
ALL = ("all",)
LOT = Lot([("a", (5,), ALL), ("b", (20,), ("size", 0, 10))])


def grown(row, much):
    """The row with each measure of each hole so much greater."""
    return Row([(tuple(measure + much for measure in hole), name) for hole, name in row.holes()])


class Lasts(unittest.TestCase):
    def told(self, holes, lot, run, **growth):
        row = Row(holes)
        self.assertEqual(row_lasts(row, lot, **growth), run)
        self.assertEqual(row_lasts(row=row, lot=lot, **growth), run)
        self.assertIn(type(row_lasts(row, lot, **growth)), (int, type(None)))

    def test_to_a_last_run(self):
        holes = [((5,), "a"), ((20,), "b")]
        self.told(holes, LOT, 4)
        for growth, run in ((1, 4), (2, 2), (3, 1), (4, 1), (5, 0), (6, 0), (G, 0)):
            self.told(holes, LOT, run, growth=growth)
        self.told([((9,), "a"), ((20,), "b")], LOT, 0)
        self.told([((9,), "a"), ((4 * G,), "b")], LOT, 0)

    def test_not_at_run_0(self):
        for holes in (
            [((20,), "b"), ((5,), "a")], [((10,), "a"), ((20,), "b")], [((4,), "a"), ((20,), "b")],
            [((5,), "a"), ((19,), "b")],
        ):
            for growth in (0, 1, 5, G):
                self.told(holes, LOT, -1, growth=growth)
            self.told(holes, LOT, -1)

    def test_always(self):
        self.told([((5,), "a"), ((20,), "b")], LOT, None, growth=0)
        for growth in (0, 1, G):
            self.told([((5,), "a")], Lot([("a", (5,), ALL)]), None, growth=growth)
            self.told([((4 * G,), "a")], Lot([("a", (0,), ALL)]), None, growth=growth)
            self.told([], Lot([]), None, growth=growth)
        self.told([], Lot([]), None)

    def test_several_measures(self):
        lot = Lot([("a", (5, 9), ALL), ("b", (20, 9), ("all", ("size", 0, 10), ("size", 1, 3)))])
        self.told([((5, 9), "a"), ((20, 9), "b")], lot, 4)
        lot = Lot([("a", (5, 2), ALL), ("b", (20, 9), ("all", ("size", 0, 7), ("size", 1, 8)))])
        self.told([((5, 2), "a"), ((20, 9), "b")], lot, 5)
        self.told([((5, 2), "a"), ((20, 9), "b")], lot, 1, growth=3)

    def test_great_ones(self):
        lot = Lot([("a", (0,) * 8, ALL), ("b", (G,) * 8, ("size", 7, G))])
        holes = [((0,) * 8, "a"), ((G,) * 8, "b")]
        self.told(holes, lot, G - 1)
        self.told(holes, lot, G // 2 - 1, growth=2)
        self.told(holes, lot, 0, growth=G)
        self.told(holes, lot, 1, growth=G - 1)
        self.told([((4 * G,) * 7 + (0,), "a"), ((4 * G,) * 8, "b")], lot, G - 1)

    def test_growth_by_its_name_alone(self):
        self.assertRaises(TypeError, row_lasts, Row([]), Lot([]), 1)

    def test_a_sort_without_just_one_hole(self):
        for holes, name in (
            ([], "a"), ([((5,), "a")], "b"), ([((20,), "b")], "a"), ([((5,), "a"), ((5,), "a"), ((20,), "b")], "a"),
            ([((5,), "a"), ((20,), "b"), ((21,), "b")], "b"), ([((20,), "b"), ((20,), "b")], "a"),
            ([((5,), "a"), ((5,), "a"), ((20,), "b"), ((20,), "b")], "a"),
        ):
            refusal(self, NotOne, {"name": name}, row_lasts, Row(holes), LOT)
            refusal(self, NotOne, {"name": name}, row_lasts, Row(holes), LOT, growth=0)
        other = Lot(LOT.sorts()[::-1])
        refusal(self, NotOne, {"name": "b"}, row_lasts, Row([]), other)

    def test_a_bin_of_nobodys(self):
        right = [((5,), "a"), ((20,), "b")]
        for at in range(3):
            refusal(self, NotOne, {"name": "x"}, row_lasts, Row(right[:at] + [((9,), "x")] + right[at:]), LOT)
        holes = [((9,), "z"), *right, ((9,), "c")]
        refusal(self, NotOne, {"name": "z"}, row_lasts, Row(holes), LOT)
        refusal(self, NotOne, {"name": "a"}, row_lasts, Row([((9,), "a")]), Lot([]))

    def test_a_sort_goes_ahead_of_a_bin(self):
        refusal(self, NotOne, {"name": "b"}, row_lasts, Row([((9,), "x"), ((5,), "a")]), LOT)
        refusal(self, NotOne, {"name": "a"}, row_lasts, Row([((9,), "x"), ((5,), "b")]), LOT)
        holes = [((9,), "x"), ((5,), "a"), ((20,), "b"), ((20,), "b")]
        refusal(self, NotOne, {"name": "b"}, row_lasts, Row(holes), LOT)

    def test_a_ring(self):
        lot = Lot(ring_sorts(3))
        self.told([(greatest, name) for name, greatest, _ in lot.sorts()], lot, -1)

    def test_against_run_for_run(self):
        found = {}
        for seed in range(700):
            chance = random.Random(seed)
            lot = some_lot(seed, 1 + seed % 3, 2 + seed % 2, most=12)
            holes = [
                (tuple(max(0, part + chance.choice((0, 0, 0, 1, 1, 2, -1))) for part in greatest), name)
                for name, greatest, _ in lot.sorts()
            ]
            chance.shuffle(holes)
            row, growth = Row(holes), chance.choice((0, 1, 1, 2, 3))
            run = -1
            while run < 30 and grades(grown(row, (run + 1) * growth), lot):
                run += 1
            run = None if run == 30 else run
            self.assertIs(run is None, growth == 0 and grades(row, lot))
            self.told(holes, lot, run, growth=growth)
            kind = run if run is None else min(run, 1)
            found[kind] = found.get(kind, 0) + 1
            if run not in (None, -1):
                for later in range(run + 1, run + 12):
                    self.assertFalse(grades(grown(row, later * growth), lot))
        self.assertGreater(min(found[kind] for kind in (None, -1, 0, 1)), 3)
