"""[23] given holes."""

import itertools
import random
import unittest

from gapgrades.errors import NoName, TooSmall
from gapgrades.grading import graded
from gapgrades.hanging import hung
from gapgrades.lots import Lot
from gapgrades.rows import Row
from gapgrades.spreads import grades
from gapgrades.things import fits
from support import is_plain, refusal, ring_sorts, some_lot

G = 10 ** 9
ALL = ("all",)
LOT = Lot([("b", (20,), ("size", 0, 10)), ("a", (5,), ALL)])


def greatest_of(lot):
    """The greatest things by their names."""
    return {name: greatest for name, greatest, _ in lot.sorts()}


class Hung(unittest.TestCase):
    def check(self, lot, holes, kind=None):
        told = hung(lot, holes)
        self.assertEqual(hung(lot=lot, holes=holes), told)
        self.assertEqual(hung(lot, dict(reversed(holes.items()))), told)
        self.assertTrue(type(told) is tuple and len(told) == 2)
        self.assertIn(told[0], ("row", "ring") if kind is None else (kind,))
        if told[0] == "row":
            self.assertIs(type(told[1]), Row)
            self.assertTrue(grades(told[1], lot))
            self.assertEqual(sorted(told[1].holes()), sorted((holes[name], name) for name in lot.names()))
        else:
            self.check_ring(lot, holes, told[1])
        return told

    def check_ring(self, lot, holes, links):
        self.assertTrue(type(links) is list and is_plain(links))
        names = [name for name, _ in links]
        self.assertGreaterEqual(len(names), 2)
        self.assertEqual(len(set(names)), len(names))
        for (name, thing), after in zip(links, names[1:] + names[:1]):
            self.assertTrue(lot.has(name, thing))
            self.assertTrue(fits(thing, holes[after]))

    def test_no_sorts_and_one(self):
        self.assertEqual(hung(Lot([]), {}), ("row", Row([])))
        self.assertEqual(hung(Lot([]), {"a": (3,)}), ("row", Row([])))
        self.assertEqual(hung(Lot([("a", (5,), ALL)]), {"a": (9,)}), ("row", Row([((9,), "a")])))

    def test_just_the_greatest_things(self):
        self.assertEqual(hung(LOT, {"a": (5,), "b": (20,)}), ("row", Row([((5,), "a"), ((20,), "b")])))
        for seed in range(100):
            lot = some_lot(seed, 1 + seed % 4, 1 + seed % 6, most=9)
            self.assertEqual(self.check(lot, greatest_of(lot))[0], graded(lot)[0])

    def test_wider_holes(self):
        self.check(LOT, {"a": (9,), "b": (20,)}, "row")
        self.check(LOT, {"a": (9,), "b": (4 * G,)}, "row")
        self.check(LOT, {"a": (5,), "b": (4 * G,)}, "row")

    def test_a_ring_by_wider_holes(self):
        self.assertEqual(graded(LOT)[0], "row")
        links = self.check(LOT, {"a": (10,), "b": (20,)}, "ring")[1]
        self.assertEqual(sorted(links), [("a", (5,)), ("b", (10,))])
        self.check(LOT, {"a": (4 * G,), "b": (4 * G,)}, "ring")
        for many in range(3, 9):
            # Without a the others have a row; so they have with it until its hole takes what the last one has.
            sorts = [("a", (1,) * many, ALL)] + ring_sorts(many)[1:]
            lot = Lot(sorts)
            self.check(lot, greatest_of(lot), "row")
            wide = {**greatest_of(lot), "a": (1,) * (many - 1) + (2,)}
            self.assertEqual(self.check(lot, wide)[0], "ring")

    def test_great_holes(self):
        lot = Lot([("a", (G,) * 8, ("worth", ("times",), G ** 8)), ("b", (G - 1,) * 8, ALL)])
        self.check(lot, {"a": (4 * G,) * 8, "b": (G,) * 7 + (G - 1,)}, "row")
        self.check(lot, {"a": (4 * G,) * 8, "b": (4 * G,) * 8}, "ring")
        self.check(lot, {"a": (4 * G,) * 8, "b": (4 * G,) * 7 + (G - 1,)}, "row")

    def test_twelve_sorts(self):
        sorts = [("abcdefghijkl"[at], (10 * at + 5,), ("size", 0, 10 * at)) for at in range(12)]
        for seed in range(5):
            random.Random(seed).shuffle(sorts)
            lot = Lot(sorts)
            self.check(lot, {name: (greatest[0] + 4,) for name, greatest, _ in sorts}, "row")
            self.check(lot, {name: (greatest[0] + 5,) for name, greatest, _ in sorts}, "ring")

    def test_names_that_are_none_of_the_lots(self):
        self.check(LOT, {"x": (1,), "a": (5,), "c": (4 * G,), "b": (20,)}, "row")
        self.check(LOT, {"x": (0,), "a": (10,), "b": (20,)}, "ring")

    def test_a_name_that_lacks(self):
        for holes, name in (({}, "b"), ({"a": (5,)}, "b"), ({"b": (20,)}, "a"), ({"x": (99,), "a": (9,)}, "b")):
            refusal(self, NoName, {"name": name}, hung, LOT, holes)

    def test_a_hole_that_is_too_small(self):
        for holes, name in (
            ({"a": (5,), "b": (19,)}, "b"), ({"a": (4,), "b": (20,)}, "a"), ({"a": (0,), "b": (0,)}, "b"),
        ):
            refusal(self, TooSmall, {"name": name}, hung, LOT, holes)
        lot = Lot([("a", (5, 5), ALL)])
        refusal(self, TooSmall, {"name": "a"}, hung, lot, {"a": (4 * G, 4)})
        refusal(self, TooSmall, {"name": "a"}, hung, lot, {"a": (4, 5)})

    def test_a_name_that_lacks_goes_ahead(self):
        refusal(self, NoName, {"name": "a"}, hung, LOT, {"b": (3,)})
        refusal(self, NoName, {"name": "b"}, hung, LOT, {"a": (3,)})
        lot = Lot(LOT.sorts() + [("c", (50,), ("size", 0, 40))])
        refusal(self, NoName, {"name": "c"}, hung, lot, {"b": (3,), "a": (3,)})
        refusal(self, NoName, {"name": "a"}, hung, lot, {"b": (3,)})
        refusal(self, TooSmall, {"name": "b"}, hung, lot, {"b": (3,), "a": (3,), "c": (3,)})
        refusal(self, TooSmall, {"name": "a"}, hung, lot, {"b": (20,), "a": (3,), "c": (3,)})

    def test_just_one_of_both(self):
        found = {"row": 0, "ring": 0}
        for seed in range(300):
            chance = random.Random(seed)
            lot = some_lot(seed, 1 + seed % 4, 2 + seed % 3, most=9)
            holes = {
                name: tuple(part + chance.choice((0, 0, 1, 3)) for part in greatest)
                for name, greatest in greatest_of(lot).items()
            }
            kind = self.check(lot, holes)[0]
            rows = [Row([(holes[name], name) for name in names]) for names in itertools.permutations(lot.names())]
            self.assertIs(any(grades(row, lot) for row in rows), kind == "row")
            found[kind] += 1
        self.assertGreater(min(found.values()), 20)

    def test_what_is_handed_in_stays(self):
        holes = {"b": (20,), "a": (10,), "x": (1,)}
        hung(LOT, holes)[1].clear()
        self.assertEqual(list(holes.items()), [("b", (20,)), ("a", (10,)), ("x", (1,))])
        self.check(LOT, holes, "ring")
