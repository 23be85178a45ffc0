"""[12] how many things fall at each place."""

import random
import unittest

from gapgrades.counts import counted
from gapgrades.errors import TooMany
from gapgrades.rows import Row
from gapgrades.things import join, meet
from support import box, is_plain, refusal, some_row, some_thing

G = 10 ** 9


def counted_one_by_one(row, least, greatest):
    """The same, each thing for itself."""
    told = [0] * (len(row) + 1)
    for thing in box(least, greatest):
        place = row.place_of(thing)
        told[len(row) if place is None else place] += 1
    return told


class Counts(unittest.TestCase):
    def test_small_boxes(self):
        chance = random.Random(5)
        for seed in range(150):
            many = 1 + seed % 3
            row = some_row(seed, many, seed % 13, most=7)
            one, other = some_thing(chance, many, 6), some_thing(chance, many, 6)
            least, greatest = meet(one, other), join(one, other)
            told = counted(row, least, greatest)
            self.assertEqual(told, counted_one_by_one(row, least, greatest))
            self.assertEqual(counted(row=row, least=least, greatest=greatest), told)
            self.assertTrue(type(told) is list and is_plain(told))

    def test_twelve_holes_none_within_another(self):
        row = Row([((at, 11 - at), "a") for at in range(12)])
        self.assertEqual(counted(row, (0, 0), (12, 12)), [12 - at for at in range(12)] + [169 - 78])
        chance = random.Random(9)
        for _ in range(6):
            row = Row([(some_thing(chance, 4, 5), "a") for _ in range(12)])
            self.assertEqual(counted(row, (0,) * 4, (5,) * 4), counted_one_by_one(row, (0,) * 4, (5,) * 4))

    def test_twelve_holes_of_eight_measures(self):
        chance = random.Random(1)
        row = Row([(some_thing(chance, 8, 4 * G), "a") for _ in range(12)])
        told = counted(row, (0,) * 8, (G,) * 8)
        self.assertEqual(sum(told), (G + 1) ** 8)
        self.assertTrue(all(number >= 0 for number in told))

    def test_great_boxes(self):
        row = Row([((G - 1, G), "a"), ((G, G - 1), "b"), ((4 * G, 4 * G), "c")])
        self.assertEqual(counted(row, (0, 0), (G, G)), [G * (G + 1), G, 1, 0])
        self.assertEqual(counted(Row([((4 * G,) * 8, "a")]), (0,) * 8, (G,) * 8), [(G + 1) ** 8, 0])
        self.assertEqual(counted(Row([((0,) * 8, "a")]), (0,) * 8, (G,) * 8), [1, (G + 1) ** 8 - 1])
        self.assertEqual(counted(Row([((G // 2,), "a"), ((G // 2,), "b")]), (5,), (G,)), [G // 2 - 4, 0, G // 2])

    def test_great_boxes_by_small_ones(self):
        # Each measure times a step, less one, keeps the same pattern with steps of things in each cell.
        step = 10 ** 8
        for seed in range(20):
            row = some_row(seed, 2, 6)
            great = Row([(tuple(step * room + step - 1 for room in hole), name) for hole, name in row.holes()])
            small = counted_one_by_one(row, (0, 0), (6, 6))
            told = counted(great, (0, 0), (7 * step - 1, 7 * step - 1))
            self.assertEqual(told, [number * step ** 2 for number in small])

    def test_the_least_thing_counts(self):
        row = Row([((3, 3), "a"), ((9, 3), "b")])
        self.assertEqual(counted(row, (0, 2), (9, 4)), [8, 12, 10])
        self.assertEqual(counted(row, (4, 4), (5, 5)), [0, 0, 4])
        self.assertEqual(counted(row, (3, 3), (5, 5)), [1, 2, 6])

    def test_the_box_of_one_thing(self):
        row = Row([((3, 3), "a"), ((9, 3), "b")])
        for thing, told in (((3, 3), [1, 0, 0]), ((4, 3), [0, 1, 0]), ((4, 4), [0, 0, 1]), ((0, 0), [1, 0, 0])):
            self.assertEqual(counted(row, thing, thing), told)

    def test_no_holes(self):
        self.assertEqual(counted(Row([]), (0, 0, 0), (1, 2, 3)), [24])
        self.assertEqual(counted(Row([]), (7,), (7,)), [1])

    def test_too_many_holes(self):
        pair = ((1,), "a")
        self.assertEqual(counted(Row([pair] * 12), (0,), (2,)), [2] + [0] * 11 + [1])
        for many in (13, 14, 60):
            refusal(self, TooMany, {"many": many}, counted, Row([pair] * many), (0,), (2,))

    def test_a_told_list_is_a_new_one(self):
        row = Row([((1,), "a")])
        counted(row, (0,), (2,)).clear()
        self.assertEqual(counted(row, (0,), (2,)), [2, 1])
