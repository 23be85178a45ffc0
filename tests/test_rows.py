"""[6] rows."""

import collections
import enum
import unittest

from gapgrades.errors import NoRow
from gapgrades.rows import Row
from gapgrades.things import fits
from support import anything, box, is_plain, refusal, some_row

G = 10 ** 9
THREE = [((1, 5), "thin"), ((5, 1), "flat"), ((9, 9), "thin")]


class Many(enum.IntEnum):
    TWO = 2


class Word(str, enum.Enum):
    ABC = "abc"


class Refusals(unittest.TestCase):
    def refused(self, place, holes):
        with self.subTest(repr(holes)[:200]):
            refusal(self, NoRow, {"place": place}, Row, holes)
            if isinstance(holes, list):
                refusal(self, NoRow, {"place": place}, Row, tuple(holes))

    def test_how_many_holes(self):
        pair = ((3,), "a")
        for many in (0, 1, 2, 59, 60):
            self.assertEqual(Row([pair] * many).holes(), [pair] * many)
            self.assertEqual(Row((pair,) * many).holes(), [pair] * many)
        for many in (61, 62, 200):
            self.refused(-1, [pair] * many)
        self.refused(-1, [None] * 61)
        self.refused(59, [pair] * 59 + [None])

    def test_no_list(self):
        for other in (None, True, False, 0, 5, "", "ab", {}, {0: ((1,), "a")}):
            self.refused(-1, other)

    def test_of_anything(self):
        for thing in anything():
            if thing not in ([], ()):
                self.refused(0 if isinstance(thing, (list, tuple)) else -1, thing)
            self.refused(0, [thing])
            self.refused(1, [((1,), "a"), thing])
            self.refused(0, [(thing, "a")])
            if thing not in ("a", "size"):
                self.refused(0, [((1,), thing)])

    def test_a_wrong_hole(self):
        good = ((1, 2), "a")
        for hole in (
            (1, -1), (1, 4 * G + 1), (1, True), (False, 1), (1, "2"), (1, None), (1, [2]), (1, (2,)), (), (1,) * 9,
            [1, 2], "12", None, 12, {1: 2}, {},
        ):
            self.refused(0, [(hole, "a"), good])
            self.refused(1, [good, (hole, "a"), good])
            self.refused(2, [good, good, (hole, "a")])

    def test_bounds_of_holes(self):
        for hole in ((0, 0), (4 * G, 4 * G), (G + 1, 0)):
            self.assertEqual(Row([(hole, "a")]).holes(), [(hole, "a")])

    def test_a_wrong_bin(self):
        good = ((1, 2), "a")
        for other in ("", "abcdefghi", "A", "aB", "a1", "1", "a b", " a", "a\n", None, 1, True, ["a"], ("a",), {}):
            self.refused(0, [((1, 2), other), good])
            self.refused(1, [good, ((1, 2), other)])
        self.assertEqual(Row([((1,), "abcdefgh")]).bins(), ["abcdefgh"])

    def test_a_wrong_pair(self):
        good = ((1, 2), "a")
        for pair in (
            ((1, 2),), ((1, 2), "a", "a"), ((1, 2), "a", None), (), [(1, 2), "a"], ("a", (1, 2)), {(1, 2): "a"}, "ab",
        ):
            self.refused(0, [pair])
            self.refused(1, [good, pair, good])

    def test_other_measures_than_the_first(self):
        for first, other in (((1, 2), (1,)), ((1, 2), (1, 2, 3)), ((1,), (1,) * 8)):
            self.refused(1, [(first, "a"), (other, "a")])
            self.refused(2, [(first, "a"), (first, "b"), (other, "a"), (first, "a")])
            self.refused(1, [(first, "a"), (other, "a"), (other, "a")])

    def test_the_first_of_two(self):
        good = ((1, 2), "a")
        self.refused(1, [good, ((1,), "a"), None])
        self.refused(1, [good, None, ((1,), "a")])
        self.refused(0, [((1, -2), "a"), ((1,), "A")])
        self.refused(2, [good, good, ((1, 2), ""), ((1, 2, 3), "a")])


class Rows(unittest.TestCase):
    def test_holes_and_len(self):
        for holes in ([], THREE, tuple(THREE)):
            row = Row(holes)
            self.assertEqual(row.holes(), list(holes))
            self.assertIs(type(row.holes()), list)
            self.assertEqual(len(row), len(holes))
        self.assertEqual(Row(holes=THREE).holes(), THREE)

    def test_bins_each_once(self):
        self.assertEqual(Row(THREE).bins(), ["thin", "flat"])
        self.assertEqual(Row([((1,), name) for name in "zbazba"]).bins(), ["z", "b", "a"])
        self.assertEqual(Row([]).bins(), [])

    def test_where_a_thing_falls(self):
        row = Row(THREE)
        for thing, place, name in (
            ((1, 5), 0, "thin"), ((1, 1), 0, "thin"), ((0, 0), 0, "thin"), ((2, 1), 1, "flat"), ((5, 1), 1, "flat"),
            ((2, 2), 2, "thin"), ((9, 9), 2, "thin"), ((6, 1), 2, "thin"), ((1, 6), 2, "thin"),
            ((10, 9), None, None), ((9, 10), None, None), ((G, G), None, None),
        ):
            self.assertEqual(row.place_of(thing), place)
            self.assertEqual(row.bin_of(thing), name)
            self.assertEqual(row.place_of(thing=thing), place)
            self.assertEqual(row.bin_of(thing=thing), name)

    def test_without_holes_all_is_out(self):
        self.assertIsNone(Row([]).place_of((0, 0)))
        self.assertIsNone(Row([]).bin_of((0,)))

    def test_the_greatest_holes(self):
        row = Row([((G - 1,) * 8, "a"), ((4 * G,) * 8, "b")])
        self.assertEqual(row.bin_of((G,) * 8), "b")
        self.assertEqual(row.bin_of((G - 1,) * 8), "a")

    def test_falls_against_the_words(self):
        for seed in range(30):
            row = some_row(seed, 2, seed % 6)
            for thing in box((0, 0), (6, 6)):
                fitting = [at for at, (hole, _) in enumerate(row.holes()) if fits(thing, hole)]
                self.assertEqual(row.place_of(thing), min(fitting, default=None))
                self.assertEqual(row.bin_of(thing), row.holes()[fitting[0]][1] if fitting else None)

    def test_equal_rows(self):
        self.assertTrue(Row(THREE) == Row(tuple(THREE)))
        self.assertFalse(Row(THREE) != Row(list(THREE)))
        self.assertTrue(Row([]) == Row(()))

    def test_unlike_rows(self):
        one = Row(THREE)
        for holes in (
            [], THREE[:2], THREE + THREE[:1], THREE[::-1], [((1, 5), "thick")] + THREE[1:],
            [((1, 6), "thin")] + THREE[1:],
        ):
            self.assertFalse(one == Row(holes))
            self.assertTrue(one != Row(holes))

    def test_a_thing_of_another_kind(self):
        for row in (Row(THREE), Row([])):
            for other in anything() + [THREE, tuple(THREE), str(row), len(row), row.holes(), object()]:
                self.assertIs(row == other, False)
                self.assertIs(row != other, True)
                self.assertIs(other == row, False)

    def test_str(self):
        self.assertEqual(str(Row(THREE)), "1x5 to thin\n5x1 to flat\n9x9 to thin")
        self.assertEqual(str(Row([((4 * G,), "a")])), "4000000000 to a")
        self.assertEqual(str(Row([((0, 1, 2, 3, 4, 5, 6, 10), "abcdefgh")])), "0x1x2x3x4x5x6x10 to abcdefgh")
        self.assertEqual(str(Row([])), "")

    def test_told_texts_are_plain(self):
        self.assertIs(type(str(Row(THREE))), str)


class Keeping(unittest.TestCase):
    def test_what_is_handed_in_stays(self):
        holes = list(THREE)
        row = Row(holes)
        row.holes(), row.bins(), row.place_of((1, 1)), str(row)
        self.assertEqual(holes, THREE)
        wrong = [THREE[0], None]
        self.assertRaises(NoRow, Row, wrong)
        self.assertEqual(wrong, [THREE[0], None])

    def test_a_list_changed_behind_the_making(self):
        holes = list(THREE)
        row = Row(holes)
        holes.reverse()
        holes.append(((7, 7), "late"))
        self.assertEqual(row.holes(), THREE)
        self.assertEqual(len(row), 3)
        self.assertEqual(row, Row(THREE))

    def test_told_lists_changed(self):
        row = Row(THREE)
        row.holes().clear()
        row.bins().append("x")
        told = row.holes()
        told[0] = ((0, 0), "b")
        self.assertEqual(row.holes(), THREE)
        self.assertEqual(row.bins(), ["thin", "flat"])
        self.assertEqual(row.bin_of((1, 5)), "thin")
        self.assertIsNot(row.holes(), row.holes())
        self.assertIsNot(row.bins(), row.bins())

    def test_what_is_told_is_plain(self):
        pair = collections.namedtuple("pair", "hole bin")
        row = Row([pair((Many.TWO, 3), Word.ABC)])
        self.assertEqual(row.holes(), [((2, 3), "abc")])
        for told in (row.holes(), row.bins(), row.bin_of((1, 1)), row.place_of((1, 1))):
            self.assertTrue(is_plain(told), told)
        self.assertEqual(str(row), "2x3 to abc")
