"""[9] lots of sorts."""

import collections
import enum
import unittest

from gapgrades.errors import Empty, NoName, NoSort, Twice, Unlike
from gapgrades.lots import Lot
from gapgrades.rows import Row
from gapgrades.rules import keeps
from gapgrades.things import fits
from support import anything, box, is_plain, refusal, some_lot

G = 10 ** 9
ALL = ("all",)
NONE = ("any",)
NUT = ("nut", (4, 6), ("size", 0, 3))
CAP = ("cap", (9, 2), ("worth", ("sum", (1, 2)), 10))


class Many(enum.IntEnum):
    TWO = 2


class Word(str, enum.Enum):
    CAP = "cap"


def alike(names, many=1):
    """Sorts that keep all, one a letter."""
    return [(name, (5,) * many, ALL) for name in names]


class Refusals(unittest.TestCase):
    def refused(self, error, field, sorts):
        name = {NoSort: "place", Unlike: "place", Empty: "name", Twice: "name"}[error]
        with self.subTest(repr(sorts)[:200]):
            refusal(self, error, {name: field}, Lot, sorts)
            if isinstance(sorts, list):
                refusal(self, error, {name: field}, Lot, sorts=tuple(sorts))

    def test_how_many_sorts(self):
        for many in (0, 1, 11, 12):
            sorts = alike("abcdefghijkl"[:many])
            self.assertEqual(Lot(sorts).sorts(), sorts)
            self.assertEqual(Lot(tuple(sorts)).sorts(), sorts)
        self.refused(NoSort, -1, alike("abcdefghijklm"))
        self.refused(NoSort, -1, [None] * 13)
        self.refused(NoSort, -1, alike("a") * 13)
        self.refused(Twice, "a", alike("a") * 12)

    def test_no_list(self):
        for other in (None, True, 0, "", "ab", {}, {"nut": NUT}):
            self.refused(NoSort, -1, other)

    def test_of_anything(self):
        for thing in anything():
            if thing not in ([], ()):
                self.refused(NoSort, 0 if isinstance(thing, (list, tuple)) else -1, thing)
            self.refused(NoSort, 0, [thing])
            self.refused(NoSort, 1, [NUT, thing])
            self.refused(NoSort, 0, [("a", thing, ALL)])
            self.refused(NoSort, 0, [("a", (1,), thing)])
            if thing not in ("a", "size"):
                self.refused(NoSort, 0, [(thing, (1,), ALL)])

    def test_no_sort(self):
        for sort in (
            list(NUT), NUT[:2], NUT + (None,), ("Nut", (4, 6), ALL), ("", (4, 6), ALL), ("nutcrackers", (4, 6), ALL),
            ("cap", (4, G + 1), ALL), ("cap", (4, -1), ALL), ("cap", [4, 6], ALL), ("cap", (4, True), ALL),
            ("cap", (), ALL), ("cap", (1,) * 9, ALL), ("cap", (4, 6), ("size", 2, 0)), ("cap", (4, 6), ["all"]),
            ("cap", (4, 6), ("worth", ("sum", (1,)), 0)), ("cap", (4, 6), ("size", 0, G + 1)), ((4, 6), "cap", ALL),
        ):
            self.refused(NoSort, 0, [sort, NUT])
            self.refused(NoSort, 1, [NUT, sort])

    def test_the_greatest_thing_there_may_be(self):
        self.assertEqual(Lot([("a", (G,) * 8, ALL)]).measures(), 8)
        self.refused(NoSort, 0, [("a", (G + 1,) * 8, ALL)])

    def test_unlike(self):
        self.refused(Unlike, 1, [NUT, ("cap", (4,), ALL)])
        self.refused(Unlike, 2, [NUT, CAP, ("pin", (4, 4, 4), ALL)])
        self.refused(Unlike, 1, [NUT, ("cap", (4, 4, 4), ("size", 2, 1)), CAP])

    def test_empty(self):
        self.refused(Empty, "nut", [("nut", (4, 6), NONE)])
        self.refused(Empty, "nut", [CAP, ("nut", (4, 6), ("size", 0, 5))])
        self.refused(Empty, "nut", [CAP, ("nut", (4, 6), ("worth", ("times",), 25))])
        self.assertEqual(len(Lot([CAP, ("nut", (4, 6), ("worth", ("times",), 24))])), 2)

    def test_twice(self):
        self.refused(Twice, "nut", [NUT, NUT])
        self.refused(Twice, "nut", [NUT, CAP, ("nut", (1, 1), ALL)])
        self.refused(Twice, "cap", [NUT, CAP, CAP, NUT])

    def test_two_at_one_place(self):
        self.refused(NoSort, 1, [NUT, ("nut", (4,), ("size", 1, 3))])
        self.refused(Unlike, 1, [NUT, ("nut", (4,), NONE)])
        self.refused(Unlike, 1, [NUT, ("cap", (4,), NONE)])
        self.refused(Unlike, 1, [NUT, ("nut", (4,), ALL)])
        self.refused(Empty, "nut", [NUT, ("nut", (4, 6), NONE)])

    def test_two_at_two_places(self):
        empty, unlike = ("pin", (1, 1), NONE), ("rod", (1,), ALL)
        self.refused(Empty, "pin", [NUT, empty, None])
        self.refused(Empty, "pin", [NUT, empty, unlike])
        self.refused(Empty, "pin", [empty, None])
        self.refused(Unlike, 1, [NUT, unlike, empty])
        self.refused(Unlike, 1, [NUT, unlike, None])
        self.refused(Twice, "nut", [NUT, NUT, None])
        self.refused(Twice, "nut", [NUT, NUT, empty])
        self.refused(Twice, "nut", [NUT, NUT, unlike])
        self.refused(NoSort, 1, [NUT, None, NUT])


class Lots(unittest.TestCase):
    def test_what_it_tells(self):
        lot = Lot([NUT, CAP])
        self.assertEqual(lot.names(), ["nut", "cap"])
        self.assertEqual(lot.sorts(), [NUT, CAP])
        self.assertEqual(lot.sort_of("nut"), NUT)
        self.assertEqual(lot.sort_of(name="cap"), CAP)
        self.assertEqual(lot.measures(), 2)
        self.assertEqual(len(lot), 2)

    def test_without_sorts(self):
        lot = Lot([])
        self.assertEqual((lot.names(), lot.sorts(), lot.measures(), len(lot)), ([], [], None, 0))

    def test_no_name(self):
        for lot in (Lot([NUT, CAP]), Lot([]), Lot(alike("bc"))):
            for name in anything() + ["nu", "nuts", "Nut", ["nut"], ("nut",), {"nut": NUT}, NUT]:
                refusal(self, NoName, {"name": name}, lot.sort_of, name)
                refusal(self, NoName, {"name": name}, lot.has, name, (1, 1))
                refusal(self, NoName, {"name": name}, lot.has, name, None)

    def test_a_refused_name_is_told_as_a_copy(self):
        name = [["nut"]]
        with self.assertRaises(NoName) as caught:
            Lot([NUT]).sort_of(name)
        name[0].append("x")
        self.assertEqual(caught.exception.name, [["nut"]])

    def test_has(self):
        lot = Lot([NUT, CAP])
        for name, thing, so in (
            ("nut", (4, 6), True), ("nut", (3, 0), True), ("nut", (2, 6), False), ("nut", (5, 6), False),
            ("nut", (4, 7), False), ("cap", (9, 2), True), ("cap", (9, 0), False), ("cap", (8, 1), True),
            ("cap", (7, 1), False), ("cap", (9, 3), False), ("cap", (10, 2), False),
        ):
            self.assertIs(lot.has(name, thing), so)
            self.assertIs(lot.has(name=name, thing=thing), so)

    def test_has_of_anything(self):
        lot = Lot([("a", (G, G), ALL)])
        for thing in anything() + [[1, 1], (1,), (1, 1, 1), (1, True), (1, G + 1), (-1, 1), (1, "1"), (1, None), "11"]:
            self.assertIs(lot.has("a", thing), False)
        self.assertIs(lot.has("a", (0, G)), True)

    def test_has_against_the_words(self):
        for seed in range(20):
            lot = some_lot(seed, 2, 3)
            for name, greatest, rule in lot.sorts():
                for thing in box((0, 0), (5, 5)):
                    self.assertIs(lot.has(name, thing), fits(thing, greatest) and keeps(rule, thing))

    def test_equal_and_unlike(self):
        lot = Lot([NUT, CAP])
        self.assertTrue(lot == Lot((NUT, CAP)))
        self.assertFalse(lot != Lot([NUT, CAP]))
        self.assertTrue(Lot([]) == Lot(()))
        for sorts in (
            [], [NUT], [CAP, NUT], [NUT, CAP, ("pin", (1, 1), ALL)], [NUT, ("cup",) + CAP[1:]],
            [NUT, ("cap", (9, 3), CAP[2])], [NUT, ("cap", (9, 2), ALL)],
        ):
            self.assertFalse(lot == Lot(sorts))
            self.assertTrue(lot != Lot(sorts))

    def test_a_thing_of_another_kind(self):
        for lot in (Lot([NUT, CAP]), Lot([])):
            for other in anything() + [lot.sorts(), tuple(lot.sorts()), lot.names(), len(lot), object(), Row([])]:
                self.assertIs(lot == other, False)
                self.assertIs(lot != other, True)
                self.assertIs(other == lot, False)


class Keeping(unittest.TestCase):
    def test_what_is_handed_in_stays(self):
        sorts = [NUT, CAP]
        lot = Lot(sorts)
        lot.names(), lot.sorts(), lot.has("nut", (1, 1))
        self.assertEqual(sorts, [NUT, CAP])
        wrong = [NUT, ["x"]]
        self.assertRaises(NoSort, Lot, wrong)
        self.assertEqual(wrong, [NUT, ["x"]])

    def test_lists_changed(self):
        sorts = [NUT, CAP]
        lot = Lot(sorts)
        sorts.reverse()
        sorts.append(None)
        lot.names().clear()
        lot.sorts().pop()
        self.assertEqual(lot.names(), ["nut", "cap"])
        self.assertEqual(lot.sorts(), [NUT, CAP])
        self.assertEqual(lot, Lot([NUT, CAP]))
        self.assertIsNot(lot.names(), lot.names())
        self.assertIsNot(lot.sorts(), lot.sorts())

    def test_refused_names_are_plain(self):
        for error, sorts in (
            (Empty, [(Word.CAP, (1,), NONE)]), (Twice, [(Word.CAP, (1,), ALL), (Word.CAP, (2,), ALL)]),
        ):
            with self.assertRaises(error) as caught:
                Lot(sorts)
            self.assertEqual(caught.exception.name, "cap")
            self.assertTrue(is_plain(caught.exception.name))

    def test_what_is_told_is_plain(self):
        sort = collections.namedtuple("sort", "name greatest rule")
        lot = Lot([sort(Word.CAP, (Many.TWO,), ("all", ("size", 0, Many.TWO)))])
        self.assertEqual(lot.sorts(), [("cap", (2,), ("all", ("size", 0, 2)))])
        for told in (lot.sorts(), lot.names(), lot.sort_of("cap"), lot.measures()):
            self.assertTrue(is_plain(told), told)
