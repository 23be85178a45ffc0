"""[20] what wear a lot bears, [21] the last run."""

import random
import unittest

from gapgrades.arrows import shared
from gapgrades.errors import NoName, NoScale
from gapgrades.lots import Lot
from gapgrades.rows import Row
from gapgrades.spreads import grades
from gapgrades.wear import borne, last_run
from support import is_plain, lot_on_scale, refusal, some_scale

G = 10 ** 9
LOW = ("low",)
NO_SCALES = (
    [], [("a", (5,), ("size", 0, 1))], [("a", (5,), ("all",))], [("a", (5,), ("all", ("worth", LOW, 1)))],
    [("a", (5,), ("worth", LOW, 1)), ("b", (9,), ("worth", ("high",), 6))],
    [("a", (5,), ("worth", LOW, 1)), ("b", (9,), ("size", 0, 6))],
)


def on_low(*sorts):
    """A lot of one measure: tuples (name, greatest, number)."""
    return Lot([(name, (greatest,), ("worth", LOW, number)) for name, greatest, number in sorts])


def lowered(lot, much):
    """The lot with each number lowered by what the dict has for its name."""
    return Lot([
        (name, greatest, ("worth", rule[1], max(0, rule[2] - much[name]))) for name, greatest, rule in lot.sorts()
    ])


def by_one(lot, number):
    """The lot with all numbers lowered by this one."""
    return lowered(lot, {name: number for name in lot.names()})


def at_run(lot, rates, run):
    """The lot at this run."""
    return lowered(lot, {name: run * rates[name] for name in lot.names()})


class Checks(unittest.TestCase):
    def check_row(self, lot, row):
        self.assertIs(type(row), Row)
        self.assertEqual(sorted(row.holes()), sorted((greatest, name) for name, greatest, _ in lot.sorts()))
        self.assertTrue(grades(row, lot))


class Borne(Checks):
    def check(self, lot, number=None):
        told = borne(lot)
        self.assertEqual(borne(lot=lot), told)
        self.assertTrue(type(told) is tuple and len(told) == 3)
        found, row, pair = told
        self.assertIs(type(found), int)
        if number is not None:
            self.assertEqual(found, number)
        if found == -1:
            self.assertIsNone(row)
        else:
            self.check_row(by_one(lot, found), row)
            self.assertIsNone(shared(by_one(lot, found)))
        self.assertIsNotNone(pair)
        self.assertEqual(pair, shared(by_one(lot, found + 1)))
        self.assertTrue(is_plain(pair))
        return found

    def test_after_some_wear(self):
        lot = on_low(("a", 5, 3), ("b", 20, 10))
        self.check(lot, 4)
        self.assertEqual(borne(lot), (4, Row([((5,), "a"), ((20,), "b")]), ("a", "b", (5,))))
        self.check(on_low(("b", 20, 6), ("a", 5, 3)), 0)
        self.check(on_low(("a", 5, 3), ("b", 20, 7)), 1)

    def test_at_once(self):
        self.check(on_low(("a", 5, 3), ("b", 20, 5)), -1)
        self.check(on_low(("a", 5, 3), ("b", 20, 0)), -1)
        self.check(on_low(("a", 5, 5), ("b", 5, 5)), -1)

    def test_numbers_at_0(self):
        self.check(on_low(("a", 5, 0), ("b", 20, 10)), 4)
        self.check(on_low(("a", 5, 0), ("b", 20, 20)), 14)
        self.check(on_low(("a", 0, 0), ("b", 20, 20)), 19)
        self.check(on_low(("a", 0, 0), ("b", 20, 0)), -1)
        self.check(on_low(("a", 9, 2), ("b", 20, 15), ("c", 50, 40)), 5)

    def test_the_first_two_in_order(self):
        lot = on_low(("z", 50, 40), ("b", 20, 19), ("c", 10, 9), ("a", 2, 0))
        self.assertEqual(borne(lot)[0::2], (6, ("c", "a", (2,))))
        lot = on_low(("z", 50, 40), ("b", 32, 19), ("c", 11, 9), ("a", 2, 0))
        self.assertEqual(borne(lot)[0::2], (6, ("c", "a", (2,))))
        lot = on_low(("z", 50, 40), ("b", 33, 19), ("c", 11, 9), ("a", 2, 0))
        self.assertEqual(borne(lot)[0::2], (6, ("z", "b", (33,))))

    def test_great_numbers(self):
        scale = ("times",)
        lot = Lot([("a", (G,) * 8, ("worth", scale, G ** 8)), ("b", (0,) * 8, ("worth", scale, 0))])
        self.check(lot, G ** 8 - 1)
        heavy = ("sum", (1000,) * 8)
        lot = Lot([("a", (G,) * 8, ("worth", heavy, 8000 * G)), ("b", (G - 1,) * 8, ("worth", heavy, 0))])
        self.check(lot, 7999)

    def test_one_sort(self):
        self.assertIsNone(borne(on_low(("a", 5, 3))))
        self.assertIsNone(borne(on_low(("a", 0, 0))))

    def test_no_scale(self):
        for sorts in NO_SCALES:
            refusal(self, NoScale, {}, borne, Lot(sorts))

    def test_twelve_sorts(self):
        sorts = [("abcdefghijkl"[at], 100 * at + 9, 100 * at) for at in range(12)]
        random.Random(1).shuffle(sorts)
        self.check(on_low(*sorts), 90)

    def test_against_lowering_by_one_and_one(self):
        found = {}
        for seed in range(300):
            chance = random.Random(seed)
            lot = lot_on_scale(chance, some_scale(chance, 1 + seed % 4), 1 + seed % 4)
            number = -1
            while shared(by_one(lot, number + 1)) is None and number < 200:
                number += 1
            if number < 200:
                self.check(lot, number)
                found[min(number, 2)] = found.get(min(number, 2), 0) + 1
        self.assertGreater(min(found[number] for number in (-1, 0, 1, 2)), 5)


class LastRun(Checks):
    def check(self, lot, rates, run):
        told = last_run(lot, rates=rates)
        self.assertEqual(last_run(lot=lot, rates=rates), told)
        self.assertTrue(type(told) is tuple and len(told) == 3)
        found, row, pair = told
        self.assertEqual(found, run)
        if run is None:
            self.assertIsNone(pair)
            for at in (0, 1, 2, 7, 1000, 10 ** 76):
                self.check_row(at_run(lot, rates, at), row)
            return
        self.assertIs(type(found), int)
        if run == -1:
            self.assertIsNone(row)
        else:
            for at in {0, run // 3, run // 2, max(0, run - 1), run} | set(range(min(run, 20))):
                self.check_row(at_run(lot, rates, at), row)
        self.assertIsNotNone(pair)
        self.assertEqual(pair, shared(at_run(lot, rates, run + 1)))
        self.assertTrue(is_plain(pair))

    def test_rates_alike(self):
        lot = on_low(("a", 5, 3), ("b", 20, 10))
        self.check(lot, {"a": 1, "b": 1}, 4)
        self.check(lot, {"a": 2, "b": 2}, 2)
        self.check(lot, {"a": 5, "b": 5}, 0)
        self.check(lot, {"a": 4, "b": 4}, 1)
        self.check(lot, {"a": G, "b": G}, 0)

    def test_rates_unlike(self):
        lot = on_low(("a", 5, 3), ("b", 20, 10))
        self.check(lot, {"a": 100, "b": 1}, 4)
        self.check(lot, {"a": 0, "b": 1}, 4)
        self.check(lot, {"b": 3, "a": 0}, 1)
        self.check(lot, {"a": 1, "b": 4}, 1)

    def test_a_slow_sort_and_a_fast_one(self):
        # The thing of both is 5x5, worth 10: b falls to it at run 2, a, slower, at run 10.
        scale = ("sum", (1, 1))
        lot = Lot([("a", (5, 15), ("worth", scale, 20)), ("b", (20, 5), ("worth", scale, 20))])
        self.check(lot, {"a": 1, "b": 5}, 9)
        self.check(lot, {"a": 5, "b": 1}, 9)
        self.check(lot, {"a": 0, "b": 5}, None)
        self.check(lot, {"a": 3, "b": 3}, 3)

    def test_rates_of_0(self):
        lot = on_low(("a", 5, 3), ("b", 20, 10))
        self.check(lot, {"a": 0, "b": 0}, None)
        self.check(lot, {"a": 7, "b": 0}, None)
        self.check(lot, {"a": G, "b": 0}, None)
        self.check(on_low(("a", 5, 3), ("b", 20, 5)), {"a": 0, "b": 0}, -1)

    def test_the_row_for_ever_is_by_what_the_numbers_come_to(self):
        scale = ("sum", (1, 1))
        lot = Lot([("a", (30, 1), ("worth", scale, 30)), ("b", (2, 25), ("worth", scale, 25))])
        self.check(lot, {"a": G, "b": 0}, None)
        self.check(lot, {"a": 0, "b": G}, None)
        self.check(lot, {"a": 0, "b": 1}, None)

    def test_at_once(self):
        for rates in ({"a": 0, "b": 0}, {"a": 1, "b": 5}):
            self.check(on_low(("a", 5, 3), ("b", 20, 5)), rates, -1)

    def test_great_ones(self):
        lot = Lot([("a", (G,) * 8, ("worth", ("times",), G ** 8)), ("b", (0,) * 8, ("worth", ("times",), 0))])
        self.check(lot, {"a": 1, "b": 0}, G ** 8 - 1)
        self.check(lot, {"a": G, "b": 0}, G ** 7 - 1)
        self.check(lot, {"a": G - 1, "b": G}, -(-G ** 8 // (G - 1)) - 1)

    def test_one_sort(self):
        for rate in (0, 1, G):
            self.assertEqual(last_run(on_low(("a", 5, 3)), rates={"a": rate}), (None, Row([((5,), "a")]), None))

    def test_names_more_than_the_lot_has(self):
        lot = on_low(("a", 5, 3), ("b", 20, 10))
        self.check(lot, {"x": 0, "b": 1, "c": G, "a": 1, "bb": 5}, 4)

    def test_a_name_that_lacks(self):
        lot = on_low(("c", 5, 3), ("a", 20, 10), ("b", 50, 30))
        for rates, name in (
            ({}, "c"), ({"c": 1}, "a"), ({"a": 1, "b": 1}, "c"), ({"b": 0, "c": 0}, "a"), ({"a": 1, "c": 1}, "b"),
        ):
            refusal(self, NoName, {"name": name}, last_run, lot, rates=rates)
        refusal(self, NoName, {"name": "a"}, last_run, on_low(("a", 5, 3)), rates={})

    def test_no_scale_goes_first(self):
        for sorts in NO_SCALES:
            refusal(self, NoScale, {}, last_run, Lot(sorts), rates={})
            refusal(self, NoScale, {}, last_run, Lot(sorts), rates={"a": 1, "b": 1})

    def test_rates_by_their_name_alone(self):
        self.assertRaises(TypeError, last_run, on_low(("a", 5, 3)), {"a": 1})

    def test_the_rates_stay(self):
        rates = {"b": 1, "a": 2, "x": 3}
        last_run(on_low(("a", 5, 3), ("b", 20, 10)), rates=rates)
        self.assertEqual(list(rates.items()), [("b", 1), ("a", 2), ("x", 3)])

    def test_against_run_for_run(self):
        found = {}
        for seed in range(400):
            chance = random.Random(seed)
            lot = lot_on_scale(chance, some_scale(chance, 1 + seed % 4), 1 + seed % 4)
            rates = {name: chance.choice((0, 0, 1, 1, 2, 5)) for name in lot.names()}
            run = -1
            while shared(at_run(lot, rates, run + 1)) is None and run < 300:
                run += 1
            if run == 300:
                if shared(at_run(lot, rates, 10 ** 9)) is not None:
                    continue
                run = None
            self.check(lot, rates, run)
            kind = run if run is None else min(run, 2)
            found[kind] = found.get(kind, 0) + 1
        self.assertGreater(min(found[kind] for kind in (None, -1, 0, 1, 2)), 5)

    def test_with_rates_of_1_it_is_what_is_borne(self):
        for seed in range(50):
            chance = random.Random(seed)
            lot = lot_on_scale(chance, some_scale(chance, 2), 2)
            self.assertEqual(borne(lot), last_run(lot, rates={name: 1 for name in lot.names()}))
