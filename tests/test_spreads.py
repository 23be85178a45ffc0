"""[11] spreads, what falls wrong, whether a row grades."""

import unittest

from gapgrades.errors import NoName
from gapgrades.lots import Lot
from gapgrades.rows import Row
from gapgrades.spreads import first_wrong, grades, spread
from support import anything, greatest_among, is_plain, refusal, some_lot, some_row, things_of

G = 10 ** 9
ALL = ("all",)
LOT = Lot([("nut", (6, 6), ("size", 0, 2)), ("cap", (9, 9), ("worth", ("low",), 7))])


class Spreads(unittest.TestCase):
    def told(self, holes, name, spots):
        row = Row(holes)
        self.assertEqual(spread(row, LOT, name), spots)
        self.assertEqual(spread(row=row, lot=LOT, name=name, out=True), spots)
        inside = [spot for spot in spots if spot[0] is not None]
        self.assertEqual(spread(row, LOT, name, out=False), inside)
        self.assertTrue(is_plain(spread(row, LOT, name)))

    def test_several_places(self):
        holes = [((3, 1), "a"), ((1, 9), "b"), ((4, 4), "c"), ((9, 5), "d"), ((8, 8), "e"), ((9, 9), "f")]
        self.told(holes, "nut", [(0, (3, 1)), (2, (4, 4)), (3, (6, 5)), (4, (6, 6))])
        self.told(holes, "cap", [(4, (8, 8)), (5, (9, 9))])

    def test_out_is_last(self):
        self.told([((3, 1), "a"), ((6, 5), "b")], "nut", [(0, (3, 1)), (1, (6, 5)), (None, (6, 6))])
        self.told([], "nut", [(None, (6, 6))])
        self.told([((9, 6), "a")], "cap", [(None, (9, 9))])

    def test_nothing_is_out_where_the_greatest_falls(self):
        self.told([((6, 6), "a"), ((1, 1), "b")], "nut", [(0, (6, 6))])

    def test_an_elder_hole_takes_it(self):
        self.told([((4, 9), "a"), ((4, 4), "b"), ((3, 9), "c"), ((9, 9), "d")], "nut", [(0, (4, 6)), (3, (6, 6))])
        self.told([((4, 9), "a"), ((4, 9), "b")], "nut", [(0, (4, 6)), (None, (6, 6))])

    def test_out_by_its_name_alone(self):
        self.assertRaises(TypeError, spread, Row([]), LOT, "nut", False)
        self.assertEqual(spread(Row([]), LOT, "nut", out=False), [])

    def test_no_name(self):
        row = Row([((9, 9), "nut")])
        for name in anything() + ["Nut", ["nut"], ("nut",)]:
            refusal(self, NoName, {"name": name}, spread, row, LOT, name)
            refusal(self, NoName, {"name": name}, spread, row, LOT, name, out=False)
            refusal(self, NoName, {"name": name}, spread, Row([]), Lot([]), name)

    def test_a_told_list_is_a_new_one(self):
        row = Row([((9, 9), "nut")])
        spread(row, LOT, "nut").clear()
        self.assertEqual(spread(row, LOT, "nut"), [(0, (6, 6))])

    def test_the_greatest_holes(self):
        lot = Lot([("a", (G,) * 8, ALL)])
        row = Row([((G,) * 7 + (G - 1,), "b"), ((4 * G,) * 8, "a")])
        self.assertEqual(spread(row, lot, "a"), [(0, (G,) * 7 + (G - 1,)), (1, (G,) * 8)])

    def test_against_every_thing(self):
        for seed in range(80):
            many = 1 + seed % 3
            lot, row = some_lot(seed, many, 3), some_row(seed, many, seed % 7)
            for sort in lot.sorts():
                falls = {}
                for thing in things_of(sort):
                    falls.setdefault(row.place_of(thing), []).append(thing)
                places = [*sorted(place for place in falls if place is not None), *[None] * (None in falls)]
                told = [(place, greatest_among(self, falls[place])) for place in places]
                self.assertEqual(spread(row, lot, sort[0]), told)


class Grading(unittest.TestCase):
    def wrong(self, holes, lot, told):
        row = Row(holes)
        self.assertEqual(first_wrong(row, lot), told)
        self.assertEqual(first_wrong(row=row, lot=lot), told)
        self.assertIs(grades(row, lot), told is None)
        self.assertIs(grades(row=row, lot=lot), told is None)

    def test_a_row_that_grades(self):
        self.wrong([((6, 6), "nut"), ((9, 9), "cap")], LOT, None)
        self.wrong([((3, 3), "nut"), ((6, 6), "nut"), ((1, 9), "x"), ((9, 8), "cap"), ((9, 9), "cap")], LOT, None)

    def test_a_wrong_bin(self):
        self.wrong([((9, 9), "cap"), ((6, 6), "nut")], LOT, ("nut", (6, 6), 0))
        self.wrong([((6, 6), "nut"), ((8, 7), "nut"), ((9, 9), "cap")], LOT, ("cap", (8, 7), 1))
        self.wrong([((6, 6), "x"), ((9, 9), "cap")], LOT, ("nut", (6, 6), 0))

    def test_the_first_of_the_spread_that_is_wrong(self):
        self.wrong([((3, 3), "nut"), ((4, 4), "a"), ((5, 5), "b"), ((9, 9), "c")], LOT, ("nut", (4, 4), 1))

    def test_out(self):
        self.wrong([((6, 5), "nut"), ((9, 9), "x")], LOT, ("nut", (6, 6), 1))
        self.wrong([((6, 5), "nut")], LOT, ("nut", (6, 6), None))
        self.wrong([((6, 6), "nut"), ((9, 7), "cap")], LOT, ("cap", (9, 9), None))

    def test_the_first_sort_in_order(self):
        other = Lot(LOT.sorts()[::-1])
        self.wrong([((9, 9), "x")], LOT, ("nut", (6, 6), 0))
        self.wrong([((9, 9), "x")], other, ("cap", (9, 9), 0))

    def test_without_sorts_and_without_holes(self):
        self.wrong([], Lot([]), None)
        self.wrong([((1, 1), "a")], Lot([]), None)
        self.wrong([], LOT, ("nut", (6, 6), None))

    def test_against_every_thing(self):
        found = 0
        for seed in range(200):
            many = 1 + seed % 3
            lot, row = some_lot(seed, many, 1 + seed % 2), some_row(seed, many, seed % 5, names="ab")
            wrong = [
                (name, thing) for name, greatest, rule in lot.sorts() for thing in things_of((name, greatest, rule))
                if row.bin_of(thing) != name
            ]
            told = first_wrong(row, lot)
            self.assertIs(grades(row, lot), not wrong)
            self.assertIs(told is None, not wrong)
            if wrong:
                self.assertEqual(told[0], wrong[0][0])
                self.assertIn(told[:2], wrong)
                self.assertEqual(told[2], row.place_of(told[1]))
                rest = [(place, thing) for place, thing in spread(row, lot, told[0]) if row.bin_of(thing) != told[0]]
                self.assertEqual((told[2], told[1]), rest[0])
            found += not wrong
        self.assertTrue(0 < found < 200)
