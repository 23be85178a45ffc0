"""[29] works of rows."""

import random
import unittest

from gapgrades.errors import NoName, TooMany
from gapgrades.lots import Lot
from gapgrades.rows import Row
from gapgrades.works import Works
from support import anything, box, is_plain, refusal, some_lot, some_row, things_of

G = 10 ** 9
ALL = ("all",)
ROWS = {
    "hall": (Row([((5,), "cut"), ((9,), "nut"), ((20,), "yard")]), "loft"),
    "cut": (Row([((2,), "pin"), ((4,), "hall")]), None),
    "yard": (Row([((15,), "cap")]), "yard"),
    "loft": (Row([((30,), "cut"), ((50,), "tub")]), None),
}


def way_of(rows, first, thing):
    """Where a thing goes, step for step, and the way."""
    way = [first]
    while True:
        row, after = rows[way[-1]]
        place = row.place_of(thing)
        name = after if place is None else row.holes()[place][1]
        if place is None and after is None:
            return "out", None, way
        if place is not None and name not in rows:
            return "bin", name, way
        if name in way:
            return "round", name, way
        way.append(name)


def some_works(seed, measures, many, most=4):
    """The dict of rows and the first name, by chance."""
    chance = random.Random(seed)
    names = ["p", "q", "r", "s", "t", "u"][:many]
    rows = {
        name: (
            some_row(seed * 10 + at, measures, chance.randint(0, 3), names="abc" + "".join(names), most=most),
            chance.choice(names + [None]),
        )
        for at, name in enumerate(names)
    }
    return rows, chance.choice(names)


class Goes(unittest.TestCase):
    def test_each_end(self):
        works = Works(ROWS, "hall")
        for thing, told in (
            (8, ("bin", "nut", ["hall"])), (2, ("bin", "pin", ["hall", "cut"])), (0, ("bin", "pin", ["hall", "cut"])),
            (4, ("round", "hall", ["hall", "cut"])), (5, ("out", None, ["hall", "cut"])),
            (15, ("bin", "cap", ["hall", "yard"])), (16, ("round", "yard", ["hall", "yard"])),
            (25, ("out", None, ["hall", "loft", "cut"])), (50, ("bin", "tub", ["hall", "loft"])),
            (51, ("out", None, ["hall", "loft"])), (G, ("out", None, ["hall", "loft"])),
        ):
            self.assertEqual(works.goes((thing,)), told)
            self.assertEqual(works.goes(thing=(thing,)), told)
            self.assertTrue(is_plain(works.goes((thing,))))

    def test_another_first_row(self):
        self.assertEqual(Works(ROWS, "loft").goes((2,)), ("bin", "pin", ["loft", "cut"]))
        self.assertEqual(Works(ROWS, "cut").goes((4,)), ("round", "cut", ["cut", "hall"]))
        self.assertEqual(Works(ROWS, "yard").goes((16,)), ("round", "yard", ["yard"]))

    def test_round_at_once_by_a_bin(self):
        works = Works({"a": (Row([((5,), "a"), ((7,), "b")]), "a")}, "a")
        self.assertEqual(works.goes((5,)), ("round", "a", ["a"]))
        self.assertEqual(works.goes((7,)), ("bin", "b", ["a"]))
        self.assertEqual(works.goes((8,)), ("round", "a", ["a"]))

    def test_round_later_but_not_to_the_first(self):
        rows = {"a": (Row([]), "b"), "b": (Row([]), "c"), "c": (Row([((5,), "b")]), "a")}
        works = Works(rows, "a")
        self.assertEqual(works.goes((5,)), ("round", "b", ["a", "b", "c"]))
        self.assertEqual(works.goes((6,)), ("round", "a", ["a", "b", "c"]))

    def test_rows_without_holes(self):
        self.assertEqual(Works({"a": (Row([]), None)}, "a").goes((5, 5)), ("out", None, ["a"]))
        rows = {"a": (Row([]), "b"), "b": (Row([((9, 9), "x")]), None)}
        self.assertEqual(Works(rows, "a").goes((5, 5)), ("bin", "x", ["a", "b"]))

    def test_way_is_a_new_list(self):
        works = Works(ROWS, "hall")
        works.goes((2,))[2].clear()
        self.assertEqual(works.goes((2,))[2], ["hall", "cut"])

    def test_against_step_for_step(self):
        found = {}
        for seed in range(200):
            measures = 1 + seed % 3
            rows, first = some_works(seed, measures, 1 + seed % 6)
            works = Works(rows, first)
            for thing in box((0,) * measures, (5,) * measures):
                told = works.goes(thing)
                self.assertEqual(told, way_of(rows, first, thing))
                found[told[0], len(told[2]) > 1] = found.get((told[0], len(told[2]) > 1), 0) + 1
        self.assertEqual(len(found), 6)


class Wrong(unittest.TestCase):
    def check(self, works, lot):
        told = works.wrong(lot)
        self.assertEqual(works.wrong(lot=lot), told)
        self.assertIs(works.grades(lot), told is None)
        self.assertIs(works.grades(lot=lot), told is None)
        if told is not None:
            self.assertTrue(type(told) is tuple and len(told) == 2 and is_plain(told))
            self.assertTrue(lot.has(*told))
            self.assertNotEqual(works.goes(told[1])[:2], ("bin", told[0]))
        return told

    def test_works_that_grade(self):
        rows = {
            "first": (Row([((5, 9), "thin"), ((9, 5), "flat")]), "second"),
            "thin": (Row([((5, 3), "pin")]), "second"), "flat": (Row([((9, 2), "disc")]), None),
            "second": (Row([((20, 20), "cap")]), None),
        }
        lot = Lot([
            ("pin", (5, 3), ALL), ("disc", (9, 2), ("size", 0, 6)), ("cap", (20, 20), ("worth", ("low",), 6)),
        ])
        works = Works(rows, "first")
        self.assertIsNone(self.check(works, lot))
        self.assertTrue(works.grades(Lot([])))
        more = Lot(lot.sorts() + [("tub", (30, 30), ("size", 0, 30))])
        self.assertEqual(self.check(works, more), ("tub", (30, 30)))

    def test_one_row_as_the_row(self):
        works = Works({"x": (Row([((5,), "a"), ((20,), "b")]), None)}, "x")
        self.assertIsNone(self.check(works, Lot([("a", (5,), ALL), ("b", (20,), ("size", 0, 6))])))
        self.assertEqual(self.check(works, Lot([("a", (5,), ALL), ("b", (20,), ("size", 0, 5))])), ("b", (5,)))
        self.assertEqual(self.check(works, Lot([("a", (6,), ALL)])), ("a", (6,)))

    def test_a_sort_called_as_a_row(self):
        # A bin that is called as a row leads there, so nothing is kept in it.
        works = Works({"a": (Row([((5,), "a")]), None)}, "a")
        self.assertEqual(self.check(works, Lot([("a", (5,), ALL)]))[0], "a")

    def test_round_and_out_are_wrong(self):
        works = Works(ROWS, "hall")
        self.assertIsNone(self.check(works, Lot([("pin", (2,), ALL), ("nut", (9,), ("size", 0, 6))])))
        self.assertEqual(self.check(works, Lot([("pin", (3,), ("size", 0, 3))])), ("pin", (3,)))
        self.assertEqual(self.check(works, Lot([("nut", (9,), ("size", 0, 5))])), ("nut", (5,)))
        self.assertEqual(self.check(works, Lot([("cap", (16,), ("size", 0, 10))]))[0], "cap")

    def test_the_first_sort_in_order(self):
        works = Works({"x": (Row([((5,), "a"), ((20,), "b")]), None)}, "x")
        wrong, worse, right = ("a", (6,), ALL), ("b", (20,), ALL), ("b", (20,), ("size", 0, 6))
        self.assertEqual(self.check(works, Lot([wrong, worse]))[0], "a")
        self.assertEqual(self.check(works, Lot([worse, wrong]))[0], "b")
        self.assertEqual(self.check(works, Lot([right, wrong]))[0], "a")
        self.assertEqual(self.check(works, Lot([right, ("c", (9,), ALL), wrong]))[0], "c")

    def test_great_ones(self):
        rows = {
            "x": (Row([((G - 1,) * 8, "a")]), "y"), "y": (Row([((4 * G,) * 7 + (0,), "b"), ((4 * G,) * 8, "z")]), None),
            "z": (Row([((G,) * 8, "c")]), None),
        }
        works = Works(rows, "x")
        lot = Lot([
            ("a", (G - 1,) * 8, ALL), ("b", (G,) * 7 + (0,), ("size", 0, G)),
            ("c", (G,) * 8, ("all", ("size", 7, 1), ("size", 1, G))),
        ])
        self.assertIsNone(self.check(works, lot))
        self.assertEqual(self.check(works, Lot([("c", (G,) * 8, ("size", 1, G))]))[0], "c")

    def test_against_all_things(self):
        found = {True: 0, False: 0}
        for seed in range(600):
            chance = random.Random(seed)
            measures = 1 + seed % 3
            rows, first = some_works(seed, measures, 1 + seed % 4, most=3)
            works = Works(rows, first)
            lot = some_lot(seed, measures, chance.randint(1, 3), most=3)
            wrong = [
                sort[0] for sort in lot.sorts()
                if any(way_of(rows, first, thing)[:2] != ("bin", sort[0]) for thing in things_of(sort))
            ]
            told = self.check(works, lot)
            self.assertEqual(told and told[0], wrong[0] if wrong else None)
            found[told is None] += 1
        self.assertGreater(min(found.values()), 3)

    def test_works_that_grade_by_chance(self):
        # Sorts that are cut out of what is kept in a bin: most of them grade.
        found = 0
        for seed in range(200):
            measures = 1 + seed % 2
            rows, first = some_works(seed, measures, 2 + seed % 4, most=5)
            works = Works(rows, first)
            kept = [thing for thing in box((0,) * measures, (5,) * measures) if works.goes(thing)[0] == "bin"]
            if not kept:
                continue
            thing = random.Random(seed).choice(kept)
            sort = (works.goes(thing)[1], thing, ("all", *[("size", at, max(0, part - 1)) for at, part in enumerate(thing)]))
            right = all(works.goes(one)[:2] == ("bin", sort[0]) for one in things_of(sort))
            self.assertIs(self.check(works, Lot([sort])) is None, right)
            found += right
        self.assertGreater(found, 20)


class Made(unittest.TestCase):
    def test_by_names(self):
        self.assertEqual(Works(rows=ROWS, first="cut"), Works(ROWS, "cut"))

    def test_equal(self):
        works = Works(ROWS, "hall")
        self.assertEqual(works, Works(dict(reversed(ROWS.items())), "hall"))
        self.assertEqual(works, Works({name: (Row(row.holes()), after) for name, (row, after) in ROWS.items()}, "hall"))
        self.assertFalse(works == Works(ROWS, "cut"))
        self.assertFalse(works == Works({**ROWS, "more": (Row([]), None)}, "hall"))
        self.assertFalse(works == Works({**ROWS, "cut": (ROWS["cut"][0], "cut")}, "hall"))
        self.assertFalse(works == Works({**ROWS, "cut": (Row([((2,), "pin")]), None)}, "hall"))
        fewer = {name: ROWS[name] for name in ("cut", "yard")}
        self.assertFalse(Works(fewer, "cut") == Works({"cut": ROWS["cut"]}, "cut"))
        for thing in anything() + [Row([]), Lot([])]:
            self.assertFalse(works == thing)
            self.assertFalse(thing == works)

    def test_what_is_kept_is_a_copy(self):
        rows = dict(ROWS)
        works = Works(rows, "hall")
        self.assertEqual(list(rows.items()), list(ROWS.items()))
        rows["hall"] = (Row([]), None)
        rows.pop("cut")
        self.assertEqual(works, Works(ROWS, "hall"))
        self.assertEqual(works.goes((2,)), ("bin", "pin", ["hall", "cut"]))

    def test_names_are_told_plain(self):
        class Text(str):
            pass

        rows = {Text("hall"): (Row([]), Text("shed")), Text("shed"): (Row([((5,), "hall")]), None)}
        works = Works(rows, Text("hall"))
        for thing in ((5,), (6,)):
            self.assertTrue(is_plain(works.goes(thing)))
        self.assertEqual(works.goes((6,)), ("out", None, ["hall", "shed"]))
        self.assertTrue(is_plain(Works(rows, Text("shed")).goes((5,))))

    def test_the_order_of_the_dict(self):
        for seed in range(20):
            chance = random.Random(seed)
            names = list(ROWS)
            chance.shuffle(names)
            works = Works({name: ROWS[name] for name in names}, "hall")
            for thing in range(60):
                self.assertEqual(works.goes((thing,)), Works(ROWS, "hall").goes((thing,)))


    def test_equal_works_tell_the_same(self):
        rows = {"p": (Row([((3, 9), "x")]), "q"), "q": (Row([((9, 3), "y"), ((9, 9), "a")]), None)}
        one, other = Works(rows, "p"), Works(dict(reversed(rows.items())), "p")
        self.assertEqual(one, other)
        # Both (3, 9) and (9, 3) fall wrong.
        lot = Lot([("a", (9, 9), ("worth", ("sum", (1, 1)), 12))])
        self.assertIn(one.wrong(lot), (("a", (3, 9)), ("a", (9, 3))))
        self.assertEqual(one.wrong(lot), other.wrong(lot))


class Refused(unittest.TestCase):
    def test_the_first_name(self):
        for thing in anything() + ["hal", "nut", "Hall", ["hall"], ("hall",), {"hall": 1}]:
            refusal(self, NoName, {"name": thing}, Works, ROWS, thing)

    def test_a_name_is_told_as_a_copy(self):
        name = [["hall"]]
        for call in (lambda: Works(ROWS, name), lambda: Works({"a": (Row([]), name)}, "a")):
            with self.assertRaises(NoName) as caught:
                call()
            name[0].append("x")
            self.assertEqual(caught.exception.name, [["hall"]])
            name[0].pop()

    def test_a_second_part(self):
        row = Row([((5,), "x")])
        refusal(self, NoName, {"name": "x"}, Works, {"a": (row, "x")}, "a")
        refusal(self, NoName, {"name": "nut"}, Works, {**ROWS, "cut": (row, "nut")}, "hall")
        refusal(self, NoName, {"name": "y"}, Works, {"b": (row, "z"), "a": (row, "y")}, "b")
        refusal(self, NoName, {"name": "z"}, Works, {"b": (row, "z"), "a": (row, "b"), "c": (row, "y")}, "b")
        refusal(self, NoName, {"name": "z"}, Works, {"b": (row, "z"), "a": (row, None), "c": (row, "y")}, "b")
        for thing in anything():
            if thing not in (None, "a"):
                refusal(self, NoName, {"name": thing}, Works, {"a": (row, thing)}, "a")

    def test_several_due(self):
        wide = Row([((5,), "x")] * 60)
        many = {"a": (wide, "x"), "b": (wide, "y"), "c": (wide, None)}
        refusal(self, NoName, {"name": "q"}, Works, many, "q")
        refusal(self, NoName, {"name": "x"}, Works, many, "b")
        refusal(self, NoName, {"name": "y"}, Works, {**many, "a": (wide, None)}, "b")
        refusal(self, TooMany, {"many": 61 ** 3}, Works, {name: (wide, None) for name in "abc"}, "b")

    def test_too_many(self):
        def rows(*many):
            return {"abcdef"[at]: (Row([((at + 1,), "z")] * (one - 1)), None) for at, one in enumerate(many)}

        Works(rows(50, 50, 2), "a")
        Works(rows(5, 5, 5, 5, 8), "a")
        # Rows of at most sixty holes never come to 5001.
        refusal(self, TooMany, {"many": 5002}, Works, rows(2, 41, 61), "a")
        refusal(self, TooMany, {"many": 5040}, Works, rows(7, 8, 9, 10), "b")
        refusal(self, TooMany, {"many": 50 * 51 * 2}, Works, rows(50, 51, 2), "a")
        refusal(self, TooMany, {"many": 61 ** 6}, Works, rows(61, 61, 61, 61, 61, 61), "f")
        Works(rows(61, 1, 1, 1, 1, 1), "f")

    def test_at_the_bound(self):
        lot = Lot([("abcdefghijkl"[at], (10 + at, 30 - at, 20), ("size", 0, 10 + at)) for at in range(12)])
        chance = random.Random(4)
        bins = lot.names()
        rows = {
            name: (Row([(tuple(chance.randint(0, 40) for _ in range(3)), chance.choice(bins)) for _ in range(many)]), after)
            for name, many, after in (("pa", 4, "pb"), ("pb", 4, "pc"), ("pc", 4, "pd"), ("pd", 4, "pe"), ("pe", 7, None))
        }
        works = Works(rows, "pa")
        for at in range(12):
            sort = lot.sorts()[at]
            right = all(works.goes(one)[:2] == ("bin", sort[0]) for one in things_of(sort))
            self.assertIs(works.grades(Lot([sort])), right)
