"""[2] whole numbers, names, plain copies."""

import enum
import unittest

from gapgrades.names import copied, is_list, is_name, is_whole, is_whole_from
from support import anything, is_plain


class Many(enum.IntEnum):
    THREE = 3


class Word(str, enum.Enum):
    ABC = "abc"


class Pair(tuple):
    pass


class Names(unittest.TestCase):
    def test_whole_numbers(self):
        for number in (0, 1, -1, 10 ** 80):
            self.assertIs(is_whole(number), True)
        for other in (True, False, None, "1", 1.0, (1,), [1], {}):
            self.assertIs(is_whole(other), False)

    def test_whole_numbers_within_bounds(self):
        for number, so in ((-1, False), (0, True), (5, True), (6, False), (True, False), ("3", False)):
            self.assertIs(is_whole_from(number, 0, 5), so)

    def test_names(self):
        for name in ("a", "z", "abcdefgh", "zzzzzzzz"):
            self.assertIs(is_name(name), True)
        for other in ("", "abcdefghi", "A", "aB", "a1", "a b", "a\n", "{", "`", "\u00e4", "a_", "-"):
            self.assertIs(is_name(other), False)

    def test_names_of_anything(self):
        for thing in anything():
            self.assertIs(is_name(thing), thing in ("a", "size"))
        self.assertIs(is_name(["a"]), False)
        self.assertIs(is_name(("a",)), False)

    def test_a_list_may_be_a_tuple(self):
        self.assertTrue(is_list([]))
        self.assertTrue(is_list(()))
        for other in (None, "", "ab", {}, 0, True):
            self.assertIs(is_list(other), False)

    def test_copies_are_equal_and_apart(self):
        inner = [1, {"a": [2]}]
        handed = {"k": inner, "t": (inner, None, True)}
        told = copied(handed)
        self.assertEqual(told, handed)
        inner[1]["a"].append(3)
        inner.append(4)
        self.assertEqual(told, {"k": [1, {"a": [2]}], "t": ([1, {"a": [2]}], None, True)})
        for thing in anything():
            self.assertEqual(copied(thing), thing)
            self.assertIs(type(copied(thing)), type(thing))

    def test_copies_are_plain(self):
        told = copied((Many.THREE, Word.ABC, Pair((Many.THREE,)), [Word.ABC]))
        self.assertEqual(told, (3, "abc", (3,), ["abc"]))
        self.assertTrue(is_plain(told))
