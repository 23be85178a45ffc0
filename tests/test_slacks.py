"""[18] the slack of a row."""

import itertools
import random
import unittest

from gapgrades.lots import Lot
from gapgrades.rows import Row
from gapgrades.slacks import slack
from gapgrades.spreads import grades
from support import some_lot, some_row, some_thing, things_of

G = 10 ** 9
ALL = ("all",)


def bin_by(pairs, thing):
    """The bin into which the thing falls by these holes, which may be below 0."""
    for hole, name in pairs:
        if all(measure <= room for measure, room in zip(thing, hole)):
            return name
    return None


def bears_all(row, lot, error):
    """Whether the row grades the lot with each of all errors up to this one."""
    things = [(sort[0], thing) for sort in lot.sorts() for thing in things_of(sort)]
    pairs = row.holes()
    many = sum(len(hole) for hole, _ in pairs)
    for errors in itertools.product(range(-error, error + 1), repeat=many):
        left = iter(errors)
        cut = [(tuple(measure + next(left) for measure in hole), name) for hole, name in pairs]
        if any(bin_by(cut, thing) != name for name, thing in things):
            return False
    return True


def slack_by_trying(row, lot):
    """The slack of a small row."""
    error = -1
    while bears_all(row, lot, error + 1):
        error += 1
    return error


class Slack(unittest.TestCase):
    def told(self, holes, sorts, error):
        row, lot = Row(holes), Lot(sorts)
        self.assertEqual(slack(row, lot), error)
        self.assertEqual(slack(row=row, lot=lot), error)
        self.assertIn(type(slack(row, lot)), (int, type(None)))

    def test_one_hole(self):
        self.told([((9,), "a")], [("a", (9,), ALL)], 0)
        self.told([((12,), "a")], [("a", (9,), ALL)], 3)
        self.told([((12, 10), "a")], [("a", (9, 9), ALL)], 1)
        self.told([((8,), "a")], [("a", (9,), ALL)], -1)

    def test_two_sorts(self):
        sorts = [("a", (5,), ALL), ("b", (20,), ("size", 0, 10))]
        self.told([((5,), "a"), ((20,), "b")], sorts, 0)
        self.told([((7,), "a"), ((22,), "b")], sorts, 2)
        self.told([((7,), "a"), ((40,), "b")], sorts, 2)
        self.told([((8,), "a"), ((22,), "b")], sorts, 1)
        self.told([((9,), "a"), ((22,), "b")], sorts, 0)
        self.told([((10,), "a"), ((22,), "b")], sorts, -1)
        self.told([((22,), "b"), ((7,), "a")], sorts, -1)

    def test_bins_of_no_sort(self):
        self.told([((3,), "x"), ((20,), "a")], [("a", (9,), ("size", 0, 6))], 2)
        self.told([((20,), "a"), ((9,), "x")], [("a", (9,), ("size", 0, 6))], 11)
        self.told([((20,), "x")], [("a", (9,), ALL)], -1)

    def test_several_holes_of_a_sort(self):
        self.told([((4,), "a"), ((12,), "a")], [("a", (9,), ALL)], 3)
        self.told([((12,), "a"), ((14,), "a")], [("a", (9,), ALL)], 5)
        self.told([((9, 2), "a"), ((2, 9), "x"), ((9, 9), "a")], [("a", (9, 9), ("size", 0, 5))], 0)
        self.told([((99, 99), "a"), ((2, 9), "x"), ((9, 9), "a")], [("a", (9, 9), ("size", 0, 5))], 90)

    def test_no_sorts(self):
        for holes in ([], [((3, 4), "a")], [((0,), "a"), ((4 * G,), "b")]):
            self.told(holes, [], None)

    def test_no_holes(self):
        self.told([], [("a", (0,), ALL)], -1)

    def test_a_hole_may_be_cut_below_0(self):
        self.told([((0,), "a")], [("a", (0,), ALL)], 0)
        self.told([((0, 9), "a")], [("a", (0, 0), ALL)], 0)
        self.told([((5,), "a")], [("a", (0,), ALL)], 5)
        self.told([((0,), "x"), ((9,), "a")], [("a", (3,), ("size", 0, 1))], 0)
        self.told([((0,), "x"), ((9,), "a")], [("a", (3,), ("size", 0, 2))], 1)

    def test_the_greatest_holes(self):
        self.told([((4 * G,), "a")], [("a", (0,), ALL)], 4 * G)
        self.told([((4 * G,) * 8, "a")], [("a", (G,) * 8, ALL)], 3 * G)
        self.told([((4 * G,) * 8, "a"), ((4 * G,) * 8, "b")], [("a", (G,) * 8, ALL)], 3 * G)
        self.told([((0,), "x"), ((4 * G,), "a")], [("a", (G,), ("size", 0, G))], G - 1)

    def test_great_numbers(self):
        sorts = [("a", (G // 2,) * 3, ALL), ("b", (G,) * 3, ("worth", ("low",), G - 1))]
        for error in (0, 1, 2, G // 4 - 2, G // 4 - 1):
            self.told([((G // 2 + error,) * 3, "a"), ((G + error,) * 3, "b")], sorts, error)
        self.told([((G // 2 + G // 4 - 1,) * 3, "a"), ((2 * G,) * 3, "b")], sorts, G // 4 - 1)
        self.told([((G // 2 + G // 4,) * 3, "a"), ((2 * G,) * 3, "b")], sorts, G // 4 - 2)

    def test_against_all_errors_in_small_rows(self):
        found = {}
        for seed in range(400):
            chance = random.Random(seed)
            many, holes = ((1, 2), (1, 3), (2, 2), (2, 1), (3, 1))[seed % 5]
            lot = some_lot(seed, many, 1 + seed % 2, most=3)
            row = some_row(seed, many, holes, names="aab" if seed % 3 else "abx", most=6)
            if chance.random() < 0.5:
                greatest = [(tuple(part + chance.randint(0, 2) for part in sort[1]), sort[0]) for sort in lot.sorts()]
                row = Row(greatest[: holes])
            told = slack_by_trying(row, lot)
            self.assertEqual(slack(row, lot), told)
            self.assertIs(told == -1, not grades(row, lot))
            found[told] = found.get(told, 0) + 1
        self.assertGreater(min(found[error] for error in (-1, 0, 1, 2)), 5)

    def test_three_sorts_with_a_gap(self):
        for seed in range(60):
            chance = random.Random(seed)
            gaps = [chance.randint(1, 4) for _ in range(3)]
            low, sorts, holes = 0, [], []
            for name, gap in zip("abc", gaps):
                thing = some_thing(chance, 1, 1)[0]
                sorts.append((name, (low + thing,), ("size", 0, low)))
                holes.append(((low + thing + chance.randint(0, 2),), name))
                low += thing + gap
            row, lot = Row(holes), Lot(sorts)
            self.assertEqual(slack(row, lot), slack_by_trying(row, lot))
