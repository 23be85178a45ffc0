"""[24] a sort more, put into a row."""

import itertools
import random
import unittest

from gapgrades.errors import Empty, NoSort, NotGraded, NotOne, Twice, Unlike
from gapgrades.grading import graded
from gapgrades.lots import Lot
from gapgrades.putting import put_in
from gapgrades.rows import Row
from gapgrades.spreads import first_wrong, grades
from gapgrades.things import fits
from support import anything, is_plain, refusal, ring_sorts, some_arrows, some_lot, some_sort

G = 10 ** 9
ALL = ("all",)
LOT = Lot([("b", (20,), ("size", 0, 10)), ("a", (5,), ALL)])
ROW = Row([((7,), "a"), ((30,), "b")])
CROSS = Lot([("a", (9, 1), ("size", 0, 5)), ("b", (1, 9), ("size", 1, 5))])
NEW = ("c", (3, 9), ("size", 0, 2))


def chain(many):
    """So many sorts of one measure, each apart from the others."""
    return [("abcdefghijkl"[at], (10 * at + 5,), ("size", 0, 10 * at)) for at in range(many)]


def rows_with(lot, row, sort):
    """All rows that have the sort's greatest thing somewhere among the holes of the row, and grade all."""
    pairs = row.holes()
    whole = Lot(lot.sorts() + [sort])
    rows = [Row(pairs[:place] + [(sort[1], sort[0])] + pairs[place:]) for place in range(len(pairs) + 1)]
    return [one for one in rows if grades(one, whole)]


class Put(unittest.TestCase):
    def check(self, lot, row, sort, kind=None):
        told = put_in(lot, row, sort)
        self.assertEqual(put_in(sort=sort, row=row, lot=lot), told)
        self.assertIs(type(told), tuple)
        rows = rows_with(lot, row, sort)
        self.assertEqual(told[0], "row" if rows else "barred")
        if kind is not None:
            self.assertEqual(told[0], kind)
        if rows:
            self.assertEqual(len(told), 2)
            self.assertIs(type(told[1]), Row)
            self.assertIn(told[1], rows)
        else:
            self.check_barred(lot, row, sort, told)
        return told

    def check_barred(self, lot, row, sort, told):
        self.assertTrue(is_plain(told))
        _, one, thing, other, within = told
        bins = [name for _, name in row.holes()]
        self.assertGreaterEqual(bins.index(one), bins.index(other))
        self.assertTrue(lot.has(one, thing) and fits(thing, sort[1]))
        self.assertTrue(Lot([sort]).has(sort[0], within))
        self.assertTrue(fits(within, row.holes()[bins.index(other)][0]))

    def test_into_no_sorts(self):
        self.assertEqual(put_in(Lot([]), Row([]), ("a", (5,), ALL)), ("row", Row([((5,), "a")])))
        for many in range(1, 9):
            self.check(Lot([]), Row([]), ("a", (G,) * many, ALL), "row")

    def test_into_a_chain(self):
        for many in range(12):
            for at in range(many + 1):
                sorts = chain(many + 1)
                new = sorts.pop(at)
                random.Random(many).shuffle(sorts)
                lot = Lot(sorts)
                whole = self.check(lot, graded(lot)[1], new, "row")[1]
                self.assertEqual([name for _, name in whole.holes()], list("abcdefghijkl"[: many + 1]))

    def test_into_wider_holes(self):
        self.check(LOT, ROW, ("c", (9,), ("size", 0, 8)), "row")
        self.check(LOT, ROW, ("c", (9,), ("size", 0, 7)), "barred")
        self.check(LOT, ROW, ("c", (30,), ("size", 0, 21)), "barred")
        self.check(LOT, ROW, ("c", (40,), ("size", 0, 31)), "row")
        self.check(LOT, ROW, ("c", (40,), ("size", 0, 30)), "barred")
        self.check(LOT, Row([((5,), "a"), ((20,), "b")]), ("c", (40,), ("size", 0, 21)), "row")

    def test_elder_holes_stay(self):
        told = put_in(LOT, ROW, ("c", (9,), ("size", 0, 8)))[1]
        self.assertEqual(told, Row([((7,), "a"), ((9,), "c"), ((30,), "b")]))

    def test_barred_by_one_sort(self):
        self.assertEqual(put_in(LOT, ROW, ("c", (6,), ALL)), ("barred", "a", (5,), "a", (6,)))
        one = Lot([("a", (5,), ALL)])
        self.assertEqual(put_in(one, Row([((4 * G,), "a")]), ("b", (7,), ("size", 0, 4))),
                         ("barred", "a", (5,), "a", (7,)))

    def test_barred_by_two_sorts(self):
        told = self.check(CROSS, Row([((9, 1), "a"), ((1, 9), "b")]), NEW, "barred")
        self.assertEqual((told[1], told[3]), ("b", "a"))
        told = self.check(CROSS, Row([((1, 9), "b"), ((9, 1), "a")]), NEW, "row")
        self.assertEqual(told[1].holes()[1], ((3, 9), "c"))

    def test_a_ring_with_the_new_one(self):
        for many in range(3, 9):
            sorts = ring_sorts(many)
            for at in range(many):
                lot = Lot(sorts[:at] + sorts[at + 1:])
                self.check(lot, graded(lot)[1], sorts[at], "barred")

    def test_great_ones(self):
        lot = Lot([("a", (G - 1,) * 8, ALL)])
        self.check(lot, Row([((G - 1,) * 8, "a")]), ("b", (G,) * 8, ("worth", ("low",), G)), "row")
        self.check(lot, Row([((G - 1,) * 8, "a")]), ("b", (G,) * 8, ("worth", ("low",), G - 1)), "barred")
        self.check(lot, Row([((4 * G,) * 7 + (G - 1,), "a")]), ("b", (G,) * 8, ("worth", ("low",), G)), "row")
        self.check(lot, Row([((4 * G,) * 8, "a")]), ("b", (G,) * 8, ("worth", ("low",), G)), "barred")

    def test_by_chance_in_all_orders(self):
        found = {"row": 0, "same": 0, "unlike": 0}
        for seed in range(250):
            chance = random.Random(seed)
            measures = 1 + seed % 4
            lot = some_lot(seed, measures, seed % 4, most=9)
            new = some_sort(chance, "z", measures, 9)
            if seed % 2:
                *sorts, new = some_arrows(chance, chance.randint(3, 5), 25).sorts()
                lot = Lot(sorts)
            room = chance.choice((0, 0, 1, 2))
            holes = [
                (tuple(part + chance.randint(0, room) for part in greatest), name) for name, greatest, _ in lot.sorts()
            ]
            for order in itertools.permutations(holes):
                row = Row(list(order))
                if grades(row, lot):
                    told = self.check(lot, row, new)
                    kind = "row" if told[0] == "row" else "same" if told[1] == told[3] else "unlike"
                    found[kind] += 1
        self.assertGreater(min(found.values()), 4, found)

    def test_eleven_sorts_by_chance(self):
        found = {"row": 0, "barred": 0}
        for seed in range(60):
            chance = random.Random(seed)
            lot = Lot(chain(12)[: chance.randint(7, 11)])
            greatest = chance.randint(0, 130)
            new = ("z", (greatest,), ("size", 0, chance.randint(max(0, greatest - 6), greatest)))
            found[self.check(lot, graded(lot)[1], new)[0]] += 1
        self.assertGreater(min(found.values()), 5)


class Refused(unittest.TestCase):
    def test_not_one(self):
        for holes, name in (
            ([], "b"), ([((5,), "a")], "b"), ([((20,), "b")], "a"), ([((5,), "a"), ((20,), "x")], "b"),
            ([((5,), "a"), ((5,), "a"), ((20,), "b")], "a"), ([((5,), "a"), ((20,), "b"), ((21,), "b")], "b"),
            ([((5,), "a"), ((20,), "b"), ((21,), "x")], "x"), ([((1,), "y"), ((5,), "a"), ((20,), "b"), ((21,), "x")], "y"),
        ):
            refusal(self, NotOne, {"name": name}, put_in, LOT, Row(holes), ("c", (9,), ("size", 0, 8)))
        refusal(self, NotOne, {"name": "a"}, put_in, Lot([]), Row([((5,), "a")]), ("c", (9,), ALL))

    def test_not_graded(self):
        for holes, name in (
            ([((20,), "b"), ((5,), "a")], "a"), ([((10,), "a"), ((20,), "b")], "b"), ([((4,), "a"), ((19,), "b")], "b"),
            ([((4,), "a"), ((20,), "b")], "a"),
        ):
            self.assertEqual(first_wrong(Row(holes), LOT)[0], name)
            refusal(self, NotGraded, {"name": name}, put_in, LOT, Row(holes), ("c", (9,), ("size", 0, 8)))

    def test_sorts(self):
        refusal(self, Twice, {"name": "a"}, put_in, LOT, ROW, ("a", (9,), ("size", 0, 8)))
        refusal(self, Twice, {"name": "b"}, put_in, LOT, ROW, ("b", (20,), ("size", 0, 10)))
        refusal(self, Unlike, {"place": 2}, put_in, LOT, ROW, ("c", (9, 9), ALL))
        refusal(self, Empty, {"name": "c"}, put_in, LOT, ROW, ("c", (9,), ("size", 0, 10)))
        refusal(self, Empty, {"name": "a"}, put_in, LOT, ROW, ("a", (9,), ("any",)))
        refusal(self, Unlike, {"place": 2}, put_in, LOT, ROW, ("a", (9, 9), ("any",)))
        refusal(self, NoSort, {"place": 2}, put_in, LOT, ROW, ("c", (9,), ("size", 1, 8)))
        refusal(self, NoSort, {"place": 2}, put_in, LOT, ROW, ["c", (9,), ALL])
        refusal(self, Empty, {"name": "c"}, put_in, Lot([]), Row([]), ("c", (9,), ("any",)))

    def test_of_anything(self):
        for thing in anything():
            refusal(self, NoSort, {"place": 2}, put_in, LOT, ROW, thing)
            refusal(self, NoSort, {"place": 0}, put_in, Lot([]), Row([]), thing)

    def test_a_thirteenth(self):
        lot = Lot(chain(12))
        row = graded(lot)[1]
        for sort in (("z", (200,), ("size", 0, 190)), ("a", (3,), ALL), None, ("z", (3, 3), ALL)):
            refusal(self, NoSort, {"place": -1}, put_in, lot, row, sort)

    def test_order_of_the_refusals(self):
        for sort in (None, ("a", (9, 9), ("any",)), ("a", (9,), ALL)):
            refusal(self, NotOne, {"name": "a"}, put_in, LOT, Row([((3,), "b"), ((9,), "x")]), sort)
            refusal(self, NotOne, {"name": "x"}, put_in, LOT, Row([((3,), "b"), ((9,), "x"), ((5,), "a")]), sort)
            refusal(self, NotGraded, {"name": "b"}, put_in, LOT, Row([((3,), "b"), ((5,), "a")]), sort)

    def test_what_is_handed_in_stays(self):
        new = ("c", (9,), ("size", 0, 8))
        put_in(LOT, ROW, new)
        self.assertEqual(ROW, Row([((7,), "a"), ((30,), "b")]))
        self.assertEqual(LOT.names(), ["b", "a"])
        self.assertEqual(put_in(LOT, ROW, new), put_in(LOT, ROW, new))
