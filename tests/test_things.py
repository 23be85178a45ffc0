"""[5] things and holes."""

import collections
import enum
import unittest

from gapgrades.things import fits, is_hole, is_thing, join, meet, written
from support import anything, is_plain

G = 10 ** 9


class Many(enum.IntEnum):
    TWO = 2
    FIVE = 5


class Things(unittest.TestCase):
    def both(self, thing, as_thing, as_hole):
        with self.subTest(repr(thing)):
            self.assertIs(is_thing(thing), as_thing)
            self.assertIs(is_hole(thing), as_hole)

    def test_how_many_measures(self):
        for many in range(12):
            self.both((1,) * many, 1 <= many <= 8, 1 <= many <= 8)

    def test_bounds_of_a_measure(self):
        for number, as_thing, as_hole in (
            (0, True, True), (G, True, True), (G + 1, False, True), (4 * G, False, True),
            (4 * G + 1, False, False), (-1, False, False), (-G, False, False), (10 ** 80, False, False),
        ):
            self.both((number,), as_thing, as_hole)
            self.both((1, number), as_thing, as_hole)
            self.both((number,) + (0,) * 7, as_thing, as_hole)
            self.both((0,) * 7 + (number,), as_thing, as_hole)

    def test_what_is_no_measure(self):
        for other in (True, False, "1", "", [1], [], None, (1,), {}, 1.0):
            self.both((other,), False, False)
            self.both((1, other, 2), False, False)
            self.both((1, 2, other), False, False)

    def test_what_is_no_tuple(self):
        for other in ([1], [1, 2], [], "12", None, 1, True, {1: 2}, {}):
            self.both(other, False, False)

    def test_of_anything(self):
        for thing in anything():
            self.both(thing, False, False)

    def test_fits(self):
        for thing, hole, so in (
            ((3,), (3,), True), ((3,), (2,), False), ((3,), (4,), True), ((0,), (0,), True),
            ((3, 4), (3, 4), True), ((3, 4), (3, 3), False), ((3, 4), (2, 9), False), ((3, 4), (9, 4), True),
            ((3, 4, 5), (3, 4, 4), False), ((G,) * 8, (4 * G,) * 8, True), ((G,) * 8, (G,) * 8, True),
            ((0,) * 7 + (1,), (G,) * 7 + (0,), False), ((1,) + (0,) * 7, (0,) + (G,) * 7, False),
        ):
            self.assertIs(fits(thing, hole), so)
            self.assertIs(fits(thing=thing, hole=hole), so)

    def test_meet_and_join(self):
        for one, other, least, most in (
            ((3,), (3,), (3,), (3,)), ((3, 4), (3, 4), (3, 4), (3, 4)), ((3, 4), (3, 5), (3, 4), (3, 5)),
            ((3, 9, 4), (7, 1, 4), (3, 1, 4), (7, 9, 4)), ((G, 0), (0, 4 * G), (0, 0), (G, 4 * G)),
            ((1,) * 8, (0,) * 8, (0,) * 8, (1,) * 8),
        ):
            self.assertEqual(meet(one, other), least)
            self.assertEqual(meet(other, one), least)
            self.assertEqual(join(one, other), most)
            self.assertEqual(join(other, one), most)
            self.assertEqual(meet(one=one, other=other), least)
            self.assertEqual(join(one=one, other=other), most)
            self.assertTrue(fits(least, one) and fits(least, other))
            self.assertTrue(fits(one, most) and fits(other, most))

    def test_told_tuples_and_numbers_are_plain(self):
        size = collections.namedtuple("size", "wide high")
        one, other = size(Many.TWO, 7), size(Many.FIVE, Many.FIVE)
        for told in (meet(one, other), join(one, other), meet(one, one), join(one, one)):
            self.assertTrue(is_plain(told), told)
        self.assertEqual(meet(one, other), (2, 5))
        self.assertEqual(join(one, other), (5, 7))

    def test_what_is_handed_in_by_names(self):
        self.assertIs(is_thing(thing=(1,)), True)
        self.assertIs(is_hole(thing=(4 * G,)), True)

    def test_written(self):
        self.assertEqual(written((3, 4, 5)), "3x4x5")
        self.assertEqual(written((7,)), "7")
        self.assertEqual(written((0, 4 * G)), "0x4000000000")
