"""[28] play."""

import random
import unittest

from gapgrades.errors import NoPlace, NotGraded
from gapgrades.grading import graded
from gapgrades.lots import Lot
from gapgrades.play import play
from gapgrades.rows import Row
from gapgrades.spreads import first_wrong, grades
from support import anything, is_plain, refusal, ring_sorts, some_lot, some_row

G = 10 ** 9
ALL = ("all",)
LOT = Lot([("a", (5,), ALL), ("b", (20,), ("size", 0, 10))])
ROW = Row([((5,), "a"), ((20,), "b")])


def recut(row, place, measure, number):
    """The row with this number as that measure of the hole at this place."""
    pairs = row.holes()
    hole = list(pairs[place][0])
    hole[measure] = number
    pairs[place] = (tuple(hole), pairs[place][1])
    return Row(pairs)


class Play(unittest.TestCase):
    def check(self, row, lot, place, measure, low=None, high=None):
        told = play(row, lot, place, measure)
        self.assertEqual(play(measure=measure, place=place, lot=lot, row=row), told)
        self.assertTrue(type(told) is tuple and len(told) == 4 and is_plain(told))
        if low is not None:
            self.assertEqual(told[:2], (low, high))
        low, high, below, above = told
        self.assertTrue(0 <= low <= row.holes()[place][0][measure] <= high <= 4 * G)
        for number in (low, high, (low + high) // 2):
            self.assertTrue(grades(recut(row, place, measure, number), lot))
        for number, wrong, bound in ((low - 1, below, low == 0), (high + 1, above, high == 4 * G)):
            if bound:
                self.assertIsNone(wrong)
            else:
                self.assertIsNotNone(wrong)
                self.assertEqual(wrong, first_wrong(recut(row, place, measure, number), lot))
        return told

    def test_ordinary(self):
        self.assertEqual(play(ROW, LOT, 0, 0), (5, 9, ("a", (5,), 1), ("b", (10,), 0)))
        self.assertEqual(play(ROW, LOT, 1, 0), (20, 4 * G, ("b", (20,), None), None))
        self.check(Row([((9,), "a"), ((4 * G,), "b")]), LOT, 0, 0, 5, 9)
        self.check(Row([((9,), "a"), ((4 * G,), "b")]), LOT, 1, 0, 20, 4 * G)

    def test_a_hole_of_no_sort(self):
        row = Row([((5,), "a"), ((7,), "x"), ((20,), "b"), ((30,), "y")])
        self.check(row, LOT, 1, 0, 0, 9)
        self.check(row, LOT, 3, 0, 0, 4 * G)
        self.check(Row([((0,), "x")]), Lot([]), 0, 0, 0, 4 * G)
        self.assertEqual(play(Row([((7, 3), "x")]), Lot([]), 0, 1), (0, 4 * G, None, None))

    def test_several_holes_of_a_sort(self):
        row = Row([((3,), "a"), ((5,), "a"), ((20,), "b")])
        self.check(row, LOT, 0, 0, 0, 9)
        self.check(row, LOT, 1, 0, 5, 9)
        row = Row([((5,), "a"), ((8,), "b"), ((12,), "b"), ((20,), "b")])
        self.check(row, LOT, 1, 0, 0, 4 * G)

    def test_several_measures(self):
        lot = Lot([("a", (5, 9), ALL), ("b", (20, 9), ("all", ("size", 0, 10), ("size", 1, 3)))])
        row = Row([((5, 9), "a"), ((20, 9), "b")])
        self.check(row, lot, 0, 0, 5, 9)
        self.check(row, lot, 0, 1, 9, 4 * G)
        row = Row([((5, 9), "a"), ((15, 2), "x"), ((20, 9), "b")])
        self.check(row, lot, 1, 0, 0, 4 * G)
        self.check(row, lot, 1, 1, 0, 2)

    def test_at_the_bounds(self):
        lot = Lot([("a", (0,) * 8, ALL), ("b", (G,) * 8, ("size", 7, 1))])
        row = Row([((0,) * 8, "a"), ((G,) * 8, "b")])
        for measure in range(7):
            self.check(row, lot, 0, measure, 0, 4 * G)
            self.check(row, lot, 1, measure, G, 4 * G)
        self.check(row, lot, 0, 7, 0, 0)
        row = Row([((4 * G,) * 7 + (0,), "a"), ((4 * G,) * 8, "b")])
        self.assertEqual(self.check(row, lot, 0, 7, 0, 0)[2:], (None, ("b", (G,) * 7 + (1,), 0)))
        self.check(row, lot, 1, 7, G, 4 * G)
        self.check(row, lot, 0, 3, 0, 4 * G)
        self.check(Row([((4 * G,), "a")]), Lot([("a", (G,), ALL)]), 0, 0, G, 4 * G)
        self.check(Row([((0,), "a")]), Lot([("a", (0,), ALL)]), 0, 0, 0, 4 * G)

    def test_against_all_numbers(self):
        found = 0
        for seed in range(500):
            chance = random.Random(seed)
            measures = 1 + seed % 3
            lot = some_lot(seed, measures, 1 + seed % 3, most=6)
            kind, row = graded(lot)
            if kind == "ring":
                continue
            pairs = row.holes()
            for _ in range(chance.randint(0, 3)):
                more = some_row(chance.random(), measures, 1, names="abcx", most=7).holes()
                tried = pairs[:]
                tried.insert(chance.randint(0, len(pairs)), more[0])
                pairs = tried if grades(Row(tried), lot) else pairs
            row = Row(pairs)
            place, measure = chance.randrange(len(row)), chance.randrange(measures)
            low, high = self.check(row, lot, place, measure)[:2]
            right = [number for number in range(12) if grades(recut(row, place, measure, number), lot)]
            self.assertEqual(right, [number for number in range(12) if low <= number <= high])
            self.assertTrue(high < 11 or high == 4 * G)
            found += 0 < low < high < 4 * G
        self.assertGreater(found, 5)

    def test_sixty_holes(self):
        sorts = [("abcdefghijkl"[at], (100 * at + 50,), ("size", 0, 100 * at)) for at in range(12)]
        lot = Lot(sorts)
        row = Row([((100 * at + 10 * part,), name) for at, (name, _, _) in enumerate(sorts) for part in range(1, 6)])
        self.check(row, lot, 4, 0, 50, 99)
        self.check(row, lot, 3, 0, 0, 99)
        self.check(row, lot, 59, 0, 1150, 4 * G)


class Refused(unittest.TestCase):
    def test_not_graded(self):
        for holes, name in (
            ([((20,), "b"), ((5,), "a")], "a"), ([((5,), "a")], "b"), ([], "a"), ([((4,), "a"), ((20,), "b")], "a"),
            ([((10,), "a"), ((20,), "b")], "b"),
        ):
            row = Row(holes)
            self.assertEqual(first_wrong(row, LOT)[0], name)
            for place, measure in ((0, 0), (None, None), (9, 0), (0, 9)):
                refusal(self, NotGraded, {"name": name}, play, row, LOT, place, measure)
        lot = Lot(ring_sorts(3))
        row = Row([(greatest, name) for name, greatest, _ in lot.sorts()])
        refusal(self, NotGraded, {"name": first_wrong(row, lot)[0]}, play, row, lot, 0, 0)

    def test_no_place(self):
        wrong = [-1, 2, 3, G, True, False, "0", (0,)] + [thing for thing in anything() if thing not in (0, 1)]
        for place in wrong:
            refusal(self, NoPlace, {"place": place}, play, ROW, LOT, place, 0)
        for measure in wrong + [1]:
            refusal(self, NoPlace, {"place": measure}, play, ROW, LOT, 1, measure)
        lot = Lot([("a", (5,) * 3, ALL)])
        row = Row([((5,) * 3, "a")])
        for measure in (3, 8, -1, True, None):
            refusal(self, NoPlace, {"place": measure}, play, row, lot, 0, measure)
        for place in (0, 1, None):
            refusal(self, NoPlace, {"place": place}, play, Row([]), Lot([]), place, 0)

    def test_both_due(self):
        refusal(self, NoPlace, {"place": 2}, play, ROW, LOT, 2, 1)
        refusal(self, NoPlace, {"place": None}, play, ROW, LOT, None, -1)
        refusal(self, NoPlace, {"place": -1}, play, ROW, LOT, 1, -1)
        refusal(self, NoPlace, {"place": "x"}, play, Row([]), Lot([]), "x", "y")

    def test_a_place_is_told_as_a_copy(self):
        place = [1]
        with self.assertRaises(NoPlace) as caught:
            play(ROW, LOT, place, 0)
        place.append(2)
        self.assertEqual(caught.exception.place, [1])

    def test_what_is_handed_in_stays(self):
        play(ROW, LOT, 0, 0)
        self.assertEqual(ROW, Row([((5,), "a"), ((20,), "b")]))
        self.assertEqual(LOT.names(), ["a", "b"])
