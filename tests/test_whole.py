"""[2], [4] what is promised over the whole program."""

import copy
import importlib
import inspect
import random
import unittest

from gapgrades.arrows import shared
from gapgrades.bestslack import best_slack
from gapgrades.errors import NoDeed, Ringed
from gapgrades.grading import graded
from gapgrades.hanging import hung
from gapgrades.house import House
from gapgrades.lots import Lot
from gapgrades.needs import needs
from gapgrades.orders import many_orders, order_at
from gapgrades.putting import put_in
from gapgrades.readers import read_lot, read_row
from gapgrades.ringlooks import shows_ring
from gapgrades.rows import Row
from gapgrades.seen import Seen
from gapgrades.spreads import first_wrong, grades, spread
from gapgrades.texts import show_lot, show_row
from gapgrades.works import Works
from support import anything, is_plain, some_arrows, some_lot, some_row
from test_interface import CLASSES, FUNCTIONS

A = ("a", (5,), ("worth", ("low",), 0))
B = ("b", (20,), ("worth", ("low",), 10))
LOT = Lot([A, B])
ROW = Row([((5,), "a"), ((20,), "b")])
STRETCHES = Lot([("a", (5,), ("all",)), ("b", (20,), ("size", 0, 10))])
RINGED = Lot([A, ("b", (20,), ("worth", ("low",), 3))])
LINKS = [("a", (5,)), ("b", (5,))]


def seen_row():
    """A row never seen that was told two falls."""
    seen = Seen(2)
    seen.saw((4,), 0)
    seen.saw((9,), 2)
    return seen


def works_of():
    """Works of one row."""
    return Works({"hall": (ROW, None)}, "hall")


def house_of():
    """A house with two sorts and a piece."""
    house = House()
    house.tell(A)
    house.tell(B)
    house.piece(1, "b", (20,))
    house.run(1)
    return house


# Arguments for each function of the interface, in the order of its places.
GIVEN = {
    "is_thing": [(3,)], "is_hole": [(3,)], "fits": [(3,), (4,)], "meet": [(3,), (4,)], "join": [(3,), (4,)],
    "is_scale": [("low",), 2], "worth": [("low",), (3, 4)], "is_rule": [("all",), 1], "keeps": [("all",), (3,)],
    "arrow": [LOT, "a", "b"], "shared": [RINGED], "spread": [ROW, LOT, "a"], "first_wrong": [Row([]), LOT],
    "grades": [ROW, LOT], "counted": [ROW, (1,), (30,)], "graded": [RINGED], "shows_ring": [RINGED, LINKS],
    "scale_of": [LOT], "rising": [LOT], "many_orders": [LOT], "order_at": [LOT, 0], "number_of": [LOT, ["a", "b"]],
    "needs": [RINGED], "shows_needs": [RINGED, ["a"], [LINKS]], "least_of": [STRETCHES, "b"], "many_row": [STRETCHES],
    "slack": [ROW, LOT], "best_slack": [LOT], "shows_slack": [LOT, 2, LINKS], "borne": [LOT], "last_run": [LOT],
    "row_lasts": [ROW, LOT], "hung": [LOT, {"a": (9,), "b": (20,)}],
    "put_in": [LOT, ROW, ("c", (9,), ("size", 0, 6))], "shows_why": [seen_row(), (3,), 1, ("ahead", 0, [0])],
    "parting": [ROW, Row([])], "spared": [Row([((5,), "a")] * 3)], "bared": [Row([((5,), "a")] * 3)],
    "play": [ROW, LOT, 0, 0], "show_row": [ROW], "show_lot": [LOT], "read_row": ["5 to a\n7 to b"],
    "read_lot": ["sort a 5 while all end"],
}
MORE = {"spread": {"out": False}, "last_run": {"rates": {"a": 1, "b": 1}}, "row_lasts": {"growth": 2}}
METHODS = {
    "Row": (lambda: ROW, {"place_of": [(3,)], "bin_of": [(3,)], "holes": [], "bins": []}),
    "Lot": (lambda: LOT, {"names": [], "sorts": [], "sort_of": ["a"], "measures": [], "has": ["a", (3,)]}),
    "Seen": (seen_row, {"saw": [(3,), 0], "falls": [], "places": [(3,)], "why": [(3,), 1]}),
    "Works": (works_of, {"goes": [(3,)], "wrong": [RINGED], "grades": [LOT]}),
    "House": (house_of, {
        "tell": [("c", (9,), ("size", 0, 6))], "drop": ["a"], "piece": [2, "a", (5,)], "take": [1], "back": [],
        "wear": [1, (12,)], "run": [1], "lot": [], "row": [], "pieces": [], "runs": [], "hung_anew": [], "twin": [],
    }),
    "Desk": (lambda: importlib.import_module("gapgrades.desk").Desk(), {"say": ["row"]}),
}


def named(call, given):
    """The arguments by the names of their places, the last one first."""
    names = list(inspect.signature(call).parameters)
    return dict(reversed(list(zip(names, given))))


def spoil(thing):
    """Change every list and dict in it."""
    if isinstance(thing, (list, tuple)):
        for part in thing:
            spoil(part)
    if isinstance(thing, dict):
        thing.clear()
    if isinstance(thing, list):
        thing.append("spoilt")


def plain_parts(thing):
    """Whether it is plain all through, rows, lots and houses aside."""
    if type(thing) in (tuple, list):
        return all(plain_parts(part) for part in thing)
    return isinstance(thing, (Row, Lot, House)) or is_plain(thing)


class Calls(unittest.TestCase):
    def test_each_function_by_places_and_by_names(self):
        for module, names in FUNCTIONS.items():
            for name in names:
                call = getattr(importlib.import_module(f"gapgrades.{module}"), name)
                given, more = GIVEN[name], MORE.get(name, {})
                kept = copy.deepcopy(given)
                told = call(*given, **more)
                self.assertEqual(call(**named(call, given), **more), told, name)
                self.assertTrue(plain_parts(told), name)
                self.assertEqual(given, kept, name)
                again = copy.deepcopy(told)
                spoil(told)
                self.assertEqual(call(*given, **more), again, name)
        self.assertEqual({name for names in FUNCTIONS.values() for name in names}, set(GIVEN))

    def test_lists_as_tuples(self):
        for name, given in (
            ("shows_ring", [RINGED, tuple(LINKS)]), ("number_of", [LOT, ("a", "b")]),
            ("shows_needs", [RINGED, ("a",), (tuple(LINKS),)]), ("shows_slack", [LOT, 2, tuple(LINKS)]),
            ("shows_why", [seen_row(), (3,), 1, ("ahead", 0, (0,))]),
        ):
            module = [one for one, names in FUNCTIONS.items() if name in names][0]
            call = getattr(importlib.import_module(f"gapgrades.{module}"), name)
            self.assertEqual(call(*given), call(*GIVEN[name]))
        self.assertEqual(Row(tuple(ROW.holes())), ROW)
        self.assertEqual(Lot(tuple(LOT.sorts())), LOT)

    def test_each_method_by_places_and_by_names(self):
        for (_, kind), methods in CLASSES.items():
            make, calls = METHODS[kind]
            self.assertEqual({name for name in methods if not name.startswith("__")}, set(calls))
            for name, given in calls.items():
                one, other = make(), make()
                told = getattr(one, name)(*given)
                self.assertEqual(getattr(other, name)(**named(getattr(other, name), given)), told, name)
                self.assertTrue(plain_parts(told), name)
                if kind != "Desk":
                    self.assertEqual(one, other)
                again = copy.deepcopy(told)
                spoil(told)
                third = make()
                self.assertEqual(getattr(third, name)(*given), again)
                if kind != "Desk":
                    self.assertEqual(one, third)

    def test_classes_by_names(self):
        self.assertEqual(Row(holes=ROW.holes()), ROW)
        self.assertEqual(Lot(sorts=LOT.sorts()), LOT)
        self.assertEqual(Works(first="hall", rows={"hall": (ROW, None)}), works_of())
        self.assertEqual(Seen(measures=1, holes=2), Seen(2))

    def test_equal_to_no_other_kind(self):
        made = [make() for kind, (make, _) in METHODS.items() if kind != "Desk"]
        for at, one in enumerate(made):
            for other in made[:at] + made[at + 1:] + anything():
                self.assertFalse(one == other)
                self.assertTrue(one != other)
        for empty in (Row([]), Lot([]), House(), Seen(1)):
            for other in (Row([]), Lot([]), House(), Seen(1)):
                self.assertIs(empty == other, type(empty) is type(other))


class Agree(unittest.TestCase):
    def lots(self):
        for seed in range(120):
            yield some_lot(seed, 1 + seed % 5, seed % 6, most=9)
            yield some_arrows(random.Random(seed), 2 + seed % 5, 10 + seed % 30)

    def test_on_a_row_or_a_ring(self):
        found = {True: 0, False: 0}
        for lot in self.lots():
            kind, told = graded(lot)
            ringed = kind == "ring"
            self.assertEqual(many_orders(lot) == 0, ringed)
            self.assertEqual(needs(lot)[0] != [], ringed)
            self.assertEqual(hung(lot, {name: greatest for name, greatest, _ in lot.sorts()})[0], kind)
            if len(lot) > 1:
                self.assertEqual(best_slack(lot)[0] == -1, ringed)
            self.assertEqual(self.house_takes(lot), not ringed)
            if ringed:
                self.assertTrue(shows_ring(lot, told))
            else:
                self.assertTrue(grades(told, lot))
                self.assertTrue(grades(Row([(lot.sort_of(name)[1], name) for name in order_at(lot, 0)]), lot))
            found[ringed] += 1
        self.assertGreater(min(found.values()), 30)

    def house_takes(self, lot):
        """Whether a house can be told all the sorts; each piece then falls into its own bin."""
        house = House()
        for number, sort in enumerate(lot.sorts(), 1):
            elder, row = house.lot(), house.row()
            try:
                house.tell(sort)
            except Ringed:
                self.assertEqual(put_in(elder, row, sort)[0], "barred")
                return False
            put = put_in(elder, row, sort)
            self.assertEqual(house.hung_anew(), 0 if put[0] == "row" else len(elder))
            house.piece(number, sort[0], sort[1])
        for number, name, thing, good in house.pieces():
            self.assertTrue(good and house.run(number) == name)
        while house.lot() != Lot([]) or house.pieces():
            house.back()
        self.assertRaises(NoDeed, house.back)
        return True

    def test_in_one_or_two_measures_rings_are_shared_things(self):
        found = 0
        for seed in range(200):
            lot = some_lot(seed, 1 + seed % 2, 2 + seed % 5, most=30)
            self.assertEqual(graded(lot)[0] == "ring", shared(lot) is not None)
            found += shared(lot) is None
        self.assertGreater(found, 3)

    def test_texts_grade_as_what_they_write(self):
        for lot in self.lots():
            again = read_lot(show_lot(lot))
            self.assertEqual(again, lot)
            self.assertEqual(graded(again), graded(lot))
            many = lot.measures() or 1
            row = some_row(len(lot), many, 7, names="abcd", most=9)
            copied = read_row(show_row(row))
            self.assertEqual(first_wrong(copied, again), first_wrong(row, lot))
            for name in lot.names():
                self.assertEqual(spread(copied, again, name), spread(row, lot, name))

    def test_one_row_as_works(self):
        found = {True: 0, False: 0}
        for seed, lot in enumerate(self.lots()):
            kind, row = graded(lot)
            if kind == "ring" or not len(lot):
                continue
            pairs = row.holes()
            random.Random(seed).shuffle(pairs)
            for tried in (row, Row(pairs)):
                works = Works({"hall": (tried, None)}, "hall")
                self.assertEqual(works.grades(lot), grades(tried, lot))
                found[works.grades(lot)] += 1
        self.assertGreater(min(found.values()), 10)
