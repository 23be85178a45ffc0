"""[15] orders: counted and numbered."""

import itertools
import math
import random
import unittest

from gapgrades.errors import NoNumber, NoOrder
from gapgrades.grading import graded
from gapgrades.lots import Lot
from gapgrades.orders import many_orders, number_of, order_at
from gapgrades.rows import Row
from gapgrades.spreads import grades
from support import anything, is_plain, lot_of_arrows, refusal, ring_sorts, some_arrows, some_lot

ALL = ("all",)
TWELVE = "lkjihgfedcba"


def band(name, least, greatest):
    """A sort of one measure."""
    return name, (greatest,), ("size", 0, least)


def apart(names):
    """A lot of sorts without arrows: each has one thing alone, the wider the lower."""
    size = len(names)
    return Lot([
        (name, (at, size - at), ("worth", ("sum", (1, 1)), size)) for at, name in enumerate(names)
    ])


def on_a_line(names):
    """A lot of sorts each of which must stand ahead of all behind it."""
    return Lot([band(name, 10 * at, 10 * at + 9) for at, name in enumerate(names)])


def all_orders(lot):
    """Every order, rising by places in the lot."""
    told = []
    for order in itertools.permutations(lot.names()):
        if grades(Row([(lot.sort_of(name)[1], name) for name in order]), lot):
            told.append(list(order))
    return told


class Orders(unittest.TestCase):
    def check(self, lot):
        orders = all_orders(lot)
        self.assertEqual(many_orders(lot), len(orders))
        self.assertEqual(many_orders(lot=lot), len(orders))
        self.assertIs(type(many_orders(lot)), int)
        self.assertEqual([order_at(lot, number) for number in range(len(orders))], orders)
        self.assertEqual([number_of(lot, order) for order in orders], list(range(len(orders))))
        for number in (-1, len(orders), len(orders) + 1):
            refusal(self, NoNumber, {"number": number}, order_at, lot, number)
        return len(orders)

    def test_no_sorts(self):
        lot = Lot([])
        self.assertEqual(self.check(lot), 1)
        self.assertEqual(order_at(lot, 0), [])
        self.assertEqual(number_of(lot, []), 0)
        self.assertEqual(number_of(lot, ()), 0)

    def test_one_sort(self):
        self.assertEqual(self.check(Lot([("a", (5,), ALL)])), 1)

    def test_up_to_six_sorts_against_all_orders(self):
        found = {}
        for seed in range(120):
            many = 2 + seed % 5 if seed % 20 else 6
            lot = some_arrows(random.Random(seed), many, (10, 20, 30)[seed % 3])
            many = self.check(lot)
            found[min(many, 3)] = found.get(min(many, 3), 0) + 1
        self.assertGreater(min(found[many] for many in (0, 1, 2, 3)), 2)
        for seed in range(60):
            self.check(some_lot(seed, 1 + seed % 4, 1 + seed % 4, most=20))

    def test_places_go_ahead_of_names(self):
        lot = apart("cab")
        told = ["cab", "cba", "acb", "abc", "bca", "bac"]
        self.assertEqual(["".join(order_at(lot, number)) for number in range(6)], told)
        self.assertEqual([number_of(lot, list(order)) for order in told], list(range(6)))

    def test_twelve_sorts_without_arrows(self):
        lot = apart(TWELVE)
        many = math.factorial(12)
        self.assertEqual(many_orders(lot), many)
        self.assertEqual(order_at(lot, 0), list(TWELVE))
        self.assertEqual(order_at(lot, many - 1), list(TWELVE[::-1]))
        self.assertEqual(order_at(lot, 1), list(TWELVE[:10] + TWELVE[:9:-1]))
        self.assertEqual(number_of(lot, list(TWELVE)), 0)
        self.assertEqual(number_of(lot, tuple(TWELVE[::-1])), many - 1)
        for number in (-1, many, 10 ** 79):
            refusal(self, NoNumber, {"number": number}, order_at, lot, number)
        numbers = sorted(random.Random(0).sample(range(many), 20))
        orders = [order_at(lot, number) for number in numbers]
        self.assertEqual([number_of(lot, order) for order in orders], numbers)
        places = [[TWELVE.index(name) for name in order] for order in orders]
        self.assertEqual(places, sorted(places))

    def test_twelve_sorts_on_one_line(self):
        lot = Lot(on_a_line(TWELVE).sorts()[::-1])
        self.assertEqual(many_orders(lot), 1)
        self.assertEqual(order_at(lot, 0), list(TWELVE))
        self.assertEqual(number_of(lot, list(TWELVE)), 0)
        refusal(self, NoNumber, {"number": 1}, order_at, lot, 1)
        refusal(self, NoOrder, {}, number_of, lot, list(TWELVE[::-1]))

    def test_a_ring(self):
        for lot in (Lot(ring_sorts(3)), Lot(ring_sorts(8)), Lot([("a", (5,), ALL), ("b", (5,), ALL)])):
            self.assertEqual(many_orders(lot), 0)
            refusal(self, NoNumber, {"number": 0}, order_at, lot, 0)
            refusal(self, NoNumber, {"number": -1}, order_at, lot, -1)
            refusal(self, NoOrder, {}, number_of, lot, lot.names())
        more = Lot([("z", (0, 0, 0), ALL)] + ring_sorts(3))
        self.assertEqual(many_orders(more), 0)
        refusal(self, NoOrder, {}, number_of, more, ["z", "a", "b", "c"])

    def test_there_is_an_order_just_where_graded_tells_a_row(self):
        for seed in range(60):
            lot = some_arrows(random.Random(seed), 8, 12)
            kind, told = graded(lot)
            self.assertIs(many_orders(lot) > 0, kind == "row")
            if kind == "row":
                order = [name for _, name in told.holes()]
                self.assertEqual(order_at(lot, number_of(lot, order)), order)

    def test_told_lists_are_new_ones(self):
        lot = apart("abc")
        order_at(lot, 3).clear()
        self.assertEqual(order_at(lot=lot, number=3), ["b", "c", "a"])
        self.assertTrue(is_plain(order_at(lot, 3)))

    def test_no_number_of_anything(self):
        lot = apart("abc")
        for number in anything() + [6, -6, "0", "a", (0,), [0], True, False]:
            if number in (0, 1) and not isinstance(number, bool):
                self.assertIs(type(order_at(lot, number)), list)
                continue
            refusal(self, NoNumber, {"number": number}, order_at, lot, number)

    def test_no_number_copies_what_was_handed_in(self):
        number = [1]
        with self.assertRaises(NoNumber) as caught:
            order_at(apart("abc"), number)
        number.append(2)
        self.assertEqual(caught.exception.number, [1])

    def test_no_order(self):
        lot = lot_of_arrows([("a", "b"), ("c", "d")], 4)
        self.assertEqual(many_orders(lot), 6)
        for order in all_orders(lot):
            self.assertEqual(number_of(lot, tuple(order)), number_of(lot=lot, names=list(order)))
            for wrong in (order[1:], order[:-1], order + ["e"], order + order[:1], order[:-1] + ["e"],
                          order[:3] + order[:1], order[:-1] + ["A"], order[:-1] + [None], order[:-1] + [["a"]]):
                refusal(self, NoOrder, {}, number_of, lot, wrong)
                refusal(self, NoOrder, {}, number_of, lot, tuple(wrong))
            for thing in anything():
                if thing != order[-1]:
                    refusal(self, NoOrder, {}, number_of, lot, order[:-1] + [thing])
        for wrong in ("bacd", "abdc", "badc", "dcab"):
            refusal(self, NoOrder, {}, number_of, lot, list(wrong))

    def test_no_order_of_anything(self):
        for thing in anything() + ["abc", {"a": 0, "b": 1, "c": 2}, [["a", "b", "c"]], ("abc",)]:
            refusal(self, NoOrder, {}, number_of, apart("abc"), thing)
        for thing in anything():
            if thing != [] and thing != ():
                refusal(self, NoOrder, {}, number_of, Lot([]), thing)

    def test_two_names_exchanged(self):
        for seed in range(40):
            lot = some_arrows(random.Random(seed), 5, 15)
            orders = all_orders(lot)
            for order in orders[:5]:
                for one, other in itertools.combinations(range(5), 2):
                    swapped = list(order)
                    swapped[one], swapped[other] = swapped[other], swapped[one]
                    if swapped in orders:
                        self.assertEqual(number_of(lot, swapped), orders.index(swapped))
                    else:
                        refusal(self, NoOrder, {}, number_of, lot, swapped)

    def test_what_is_handed_in_stays(self):
        names = ["a", "b", "c"]
        number_of(apart("abc"), names)
        self.assertEqual(names, ["a", "b", "c"])
