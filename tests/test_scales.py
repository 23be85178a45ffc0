"""[7] scales."""

import itertools
import random
import unittest

from gapgrades.scales import is_scale, worth
from support import anything, box, some_scale

G = 10 ** 9
LOW = ("low",)


def within(depth, word="add"):
    """A scale with so many within one another."""
    scale = LOW
    for _ in range(depth - 1):
        scale = (word, LOW, scale)
    return scale


class Scales(unittest.TestCase):
    def told(self, thing, many, so):
        with self.subTest(repr((thing, many))[:200]):
            self.assertIs(is_scale(thing, many), so)
            self.assertIs(is_scale(thing=thing, many=many), so)

    def test_each_kind(self):
        for many in range(1, 9):
            for scale in (
                ("sum", (1,) * many), ("times",), ("low",), ("high",), ("add", LOW, ("high",)),
                ("lesser", ("times",), ("sum", (0,) * many)), ("greater", LOW, LOW),
            ):
                self.told(scale, many, True)

    def test_weights(self):
        for weight, so in (
            (0, True), (1000, True), (1001, False), (-1, False), (True, False), (False, False), ("1", False),
            (None, False), ((1,), False), ([1], False), (10 ** 80 - 1, False),
        ):
            self.told(("sum", (weight,)), 1, so)
            self.told(("sum", (1, weight, 2)), 3, so)
            self.told(("add", LOW, ("sum", (3, weight))), 2, so)

    def test_how_many_weights(self):
        for many in range(1, 9):
            self.told(("sum", (1,) * (many - 1)), many, False)
            self.told(("sum", (1,) * (many + 1)), many, False)
        self.told(("sum", ()), 1, False)

    def test_weights_that_are_no_tuple(self):
        for other in ([1, 1], "11", None, 2, {0: 1, 1: 1}, True):
            self.told(("sum", other), 2, False)

    def test_within_one_another(self):
        for word in ("add", "lesser", "greater"):
            for depth in range(1, 8):
                self.told(within(depth, word), 2, depth <= 4)
            self.told((word, within(3), within(3)), 2, True)
            self.told((word, within(4), LOW), 2, False)
            self.told((word, LOW, within(4)), 2, False)

    def test_sums_count_as_one_within(self):
        deep = ("add", LOW, ("add", LOW, ("add", LOW, ("sum", (1,)))))
        self.told(deep, 1, True)
        self.told(("add", LOW, deep), 1, False)

    def test_other_words(self):
        for word in ("", "Low", "lows", "size", "all", "any", "worth", "end", "at", None, 1, True, ("low",), ["low"], {}):
            self.told((word,), 1, False)
            self.told((word, (1,)), 1, False)
            self.told((word, LOW, LOW), 1, False)

    def test_more_and_fewer_parts(self):
        for word in ("times", "low", "high"):
            for parts in ((1,), (None,), ((),), (LOW,), (LOW, LOW)):
                self.told((word,) + parts, 1, False)
        for parts in ((), ((1,), (1,)), ((1,), None), (1,)):
            self.told(("sum",) + parts, 1, False)
        for word in ("add", "lesser", "greater"):
            for many in (0, 1, 3, 4):
                self.told((word,) + (LOW,) * many, 1, False)

    def test_of_anything(self):
        for thing in anything():
            self.told(thing, 1, False)
            self.told((thing,), 1, False)
            self.told(("sum", thing), 2, False)
            self.told(("add", LOW, thing), 2, False)
            self.told(("add", thing, LOW), 2, False)
        for scale in (["low"], ["add", LOW, LOW], ("add", ["low"], LOW), "low"):
            self.told(scale, 1, False)
        self.told(within(30), 1, False)


class Worths(unittest.TestCase):
    def worth(self, scale, thing, number):
        with self.subTest(repr((scale, thing))):
            self.assertEqual(worth(scale, thing), number)
            self.assertIs(type(worth(scale=scale, thing=thing)), int)

    def test_small_things(self):
        thing = (3, 7, 2)
        for scale, number in (
            (("sum", (1, 1, 1)), 12), (("sum", (0, 0, 0)), 0), (("sum", (5, 0, 1000)), 2015), (("times",), 42),
            (("low",), 2), (("high",), 7), (("add", ("low",), ("high",)), 9), (("add", ("times",), ("times",)), 84),
            (("lesser", ("times",), ("high",)), 7), (("lesser", ("low",), ("high",)), 2),
            (("greater", ("times",), ("high",)), 42), (("greater", ("low",), ("high",)), 7),
            (("add", ("add", ("low",), ("high",)), ("lesser", ("times",), ("greater", ("low",), ("high",)))), 16),
        ):
            self.worth(scale, thing, number)

    def test_noughts_and_one_measure(self):
        for scale in (("sum", (7,)), ("times",), ("low",), ("high",), ("add", LOW, LOW), ("greater", LOW, ("times",))):
            self.worth(scale, (0,), 0)
        self.worth(("times",), (5,), 5)
        self.worth(("times",), (5, 0, 9), 0)
        self.worth(("sum", (3,)), (5,), 15)

    def test_the_greatest_things(self):
        thing = (G,) * 8
        times = ("times",)
        self.worth(("sum", (1000,) * 8), thing, 8000 * G)
        self.worth(times, thing, G ** 8)
        self.worth(("low",), thing, G)
        self.worth(("high",), (0,) * 7 + (G,), G)
        two = ("add", times, times)
        four = ("add", two, two)
        self.worth(("add", four, four), thing, 8 * G ** 8)
        self.worth(("lesser", times, ("low",)), thing, G)
        self.worth(("greater", times, ("low",)), thing, G ** 8)

    def test_truths_are_no_worths(self):
        class Many(int):
            pass

        for scale in (("low",), ("high",), ("times",), ("sum", (1,)), ("add", LOW, LOW), ("lesser", LOW, LOW)):
            self.assertIs(type(worth(scale, (Many(4),))), int)

    def test_no_worth_falls_as_a_measure_grows(self):
        chance = random.Random(7)
        for _ in range(60):
            scale = some_scale(chance, 2, 4)
            self.assertTrue(is_scale(scale, 2))
            for one, other in itertools.product(box((0, 0), (3, 3)), repeat=2):
                if one[0] <= other[0] and one[1] <= other[1]:
                    self.assertLessEqual(worth(scale, one), worth(scale, other))
