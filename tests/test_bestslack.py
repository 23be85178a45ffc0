"""[19] the best slack of a lot, and the look at its links."""

import itertools
import random
import unittest

from gapgrades.bestslack import best_slack, shows_slack
from gapgrades.grading import graded
from gapgrades.lots import Lot
from gapgrades.ringlooks import shows_ring
from gapgrades.rows import Row
from gapgrades.slacks import slack
from gapgrades.spreads import grades
from gapgrades.things import fits
from support import anything, box, is_plain, lot_on_scale, ring_sorts, some_lot, some_scale

G = 10 ** 9
ALL = ("all",)
GAP = Lot([("a", (5,), ALL), ("b", (20,), ("size", 0, 10))])


def wider(thing, room):
    """The thing with so much added to each measure."""
    return tuple(measure + room for measure in thing)


def are_wide_links(lot, links, room):
    """The words of [19], of a list of tuples (name, thing)."""
    names = [name for name, _ in links]
    if len(links) < 2 or len(set(names)) < len(names):
        return False
    return all(
        lot.has(name, thing) and fits(thing, wider(lot.sort_of(after)[1], room))
        for (name, thing), after in zip(links, names[1:] + names[:1])
    )


class BestSlack(unittest.TestCase):
    def check(self, lot, error=None):
        told = best_slack(lot)
        self.assertEqual(best_slack(lot=lot), told)
        self.assertTrue(type(told) is tuple and len(told) == 3)
        best, row, links = told
        self.assertIs(type(best), int)
        if error is not None:
            self.assertEqual(best, error)
        if best == -1:
            self.assertIsNone(row)
            self.assertTrue(shows_ring(lot, links))
        else:
            self.check_row(lot, best, row)
        self.assertTrue(type(links) is list and is_plain(links))
        self.assertTrue(are_wide_links(lot, links, 2 * (best + 1)))
        self.assertIs(shows_slack(lot, best, links), True)
        return best

    def check_row(self, lot, error, row):
        self.assertIs(type(row), Row)
        self.assertEqual(sorted(row.holes()), sorted((wider(thing, error), name) for name, thing, _ in lot.sorts()))
        self.assertEqual(slack(row, lot), error)
        for cut in (error, -error):
            self.assertTrue(grades(Row([(wider(hole, cut), name) for hole, name in row.holes()]), lot))

    def test_fewer_than_two_sorts(self):
        self.assertIsNone(best_slack(Lot([])))
        self.assertIsNone(best_slack(Lot([("a", (5,), ALL)])))

    def test_two_sorts(self):
        self.check(GAP, 2)
        for gap, error in ((0, -1), (1, 0), (2, 0), (3, 1), (4, 1), (5, 2), (999, 499), (1000, 499)):
            self.check(Lot([("a", (5,), ALL), ("b", (2000,), ("size", 0, 5 + gap))]), error)
            self.check(Lot([("b", (2000,), ("size", 0, 5 + gap)), ("a", (5,), ALL)]), error)

    def test_a_ring_at_once(self):
        self.check(Lot([("a", (5,), ALL), ("b", (5,), ALL)]), -1)
        self.check(Lot(ring_sorts(3)), -1)
        self.check(Lot([("a", (0,), ALL), ("b", (0,), ALL)]), -1)

    def test_great_ones(self):
        self.check(Lot([("a", (0,), ALL), ("b", (G,), ("size", 0, G))]), G // 2 - 1)
        self.check(Lot([("a", (0,), ALL), ("b", (G,), ("size", 0, G - 1))]), G // 2 - 1)
        self.check(Lot([("a", (0,), ALL), ("b", (G,), ("size", 0, G - 2))]), G // 2 - 2)
        self.check(Lot([("a", (0,) * 8, ALL), ("b", (G,) * 8, ("worth", ("times",), G ** 8))]), G // 2 - 1)

    def test_twelve_sorts(self):
        sorts = [("abcdefghijkl"[at], (100 * at + 9, 5), ("size", 0, 100 * at)) for at in range(12)]
        for seed in range(5):
            random.Random(seed).shuffle(sorts)
            self.check(Lot(sorts), 45)

    def test_it_is_0_or_more_just_where_graded_tells_a_row(self):
        found = {True: 0, False: 0}
        for seed in range(150):
            lot = some_lot(seed, 1 + seed % 4, 2 + seed % 4, most=40)
            kind = graded(lot)[0] == "row"
            self.assertIs(self.check(lot) >= 0, kind)
            found[kind] += 1
        for seed in range(100):
            chance = random.Random(seed)
            self.check(lot_on_scale(chance, some_scale(chance, 2), 2))
        self.assertGreater(min(found.values()), 10)

    def test_against_all_orders_of_holes(self):
        found = {}
        for seed in range(120):
            many, count = ((1, 2), (1, 3), (2, 2))[seed % 3]
            lot = some_lot(seed, many, count, most=9 if many == 1 else 3)
            # No error above 4, or 1, is borne by such small sorts.
            widest = (13,) if many == 1 else (5, 5)
            best = -1
            for names in itertools.permutations(lot.names()):
                for holes in itertools.product(*[box(lot.sort_of(name)[1], widest) for name in names]):
                    row = Row(list(zip(holes, names)))
                    if grades(row, lot):
                        best = max(best, slack(row, lot))
            self.assertEqual(self.check(lot), best)
            found[best] = found.get(best, 0) + 1
        self.assertGreater(min(found[error] for error in (-1, 0, 1)), 3)

    def test_told_lists_are_new_ones(self):
        best_slack(GAP)[2].clear()
        self.check(GAP, 2)


class Looks(unittest.TestCase):
    LINKS = [("a", (5,)), ("b", (11,))]

    def look(self, told, error, links, lot=GAP):
        self.assertIs(shows_slack(lot, error, links), told, (error, links))
        self.assertIs(shows_slack(lot=lot, error=error, thing=links), told, (error, links))

    def test_at_each_error(self):
        self.look(True, 2, self.LINKS)
        self.look(True, 3, self.LINKS)
        self.look(True, 10 ** 79, self.LINKS)
        for error in (-1, 0, 1):
            self.look(False, error, self.LINKS)
        # One less is still within at an error of 2: b begins at 10, a ends at 5.
        self.look(False, 1, [("a", (5,)), ("b", (10,))])
        self.look(True, 2, [("a", (5,)), ("b", (10,))])

    def test_at_minus_one_it_is_the_look_at_rings(self):
        lot = Lot(ring_sorts(3))
        links = graded(lot)[1]
        self.look(True, -1, links, lot)
        for at in range(3):
            self.look(False, -1, links[:at] + links[at + 1:], lot)
        # 2 wider every sort takes what another one has.
        self.look(True, 0, links[::-1], lot)
        self.look(False, -1, links[::-1], lot)

    def test_turned_and_as_a_tuple(self):
        self.look(True, 2, self.LINKS[::-1])
        self.look(True, 2, tuple(self.LINKS))

    def test_one_thing_otherwise(self):
        for links in (
            [("a", (6,)), ("b", (11,))], [("a", (5,)), ("b", (12,))], [("a", (5,)), ("b", (9,))],
            [("a", (5,)), ("b", (21,))], [("b", (5,)), ("a", (11,))], [("a", (5,)), ("a", (5,))],
            [("b", (11,)), ("b", (11,))], [("a", (5,)), ("c", (11,))], [("a", (5,)), ("b", [11])],
            [("a", (5,)), ["b", (11,)]], [("a", (5,)), ("b", (11,), 1)], [("a", (5,)), ("b",)], [("a", (5,))],
            [("b", (11,))], [], self.LINKS + [("a", (5,))], [("a", (True,)), ("b", (11,))], dict(self.LINKS),
            [("a", (5, 5)), ("b", (11, 11))], [("a", (5,)), ("b", (-1,))],
        ):
            self.look(False, 2, links)
        self.look(True, 2, [("a", (0,)), ("b", (11,))])

    def test_fewer_than_two_sorts(self):
        self.look(False, 5, [("a", (5,))], Lot([("a", (5,), ALL)]))
        self.look(False, 5, [("a", (5,)), ("a", (5,))], Lot([("a", (5,), ALL)]))
        self.look(False, 5, [], Lot([]))

    def test_of_anything(self):
        for thing in anything():
            for error in (-1, 0, 2, 10 ** 79):
                self.look(False, error, thing)
                self.look(False, error, [("a", (5,)), thing])
                self.look(False, error, [("a", (5,)), ("b", thing)])
                self.look(False, error, [("a", (5,)), (thing, (11,))])
                self.look(False, error, thing, Lot([]))

    def test_against_the_words(self):
        found = {True: 0, False: 0}
        for seed in range(300):
            chance = random.Random(seed)
            lot = some_lot(seed, 1 + seed % 2, 3, most=8)
            names = chance.sample("abc", chance.randint(2, 3))
            things = list(box((0,) * lot.measures(), (8,) * lot.measures()))
            links = [(name, chance.choice([thing for thing in things if lot.has(name, thing)])) for name in names]
            for error in range(-1, 4):
                told = are_wide_links(lot, links, 2 * (error + 1))
                self.look(told, error, links, lot)
                found[told] += 1
        self.assertGreater(min(found.values()), 100)
