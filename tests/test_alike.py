"""[27] rows alike."""

import random
import unittest

from gapgrades.alike import bared, parting, spared
from gapgrades.rows import Row
from gapgrades.things import is_thing
from support import box, is_plain, some_row, some_thing

G = 10 ** 9


def left_out(row, place):
    """The row without this place."""
    return Row([pair for at, pair in enumerate(row.holes()) if at != place])


def parts_small(row, other, measures, most):
    """Whether some thing of small measures parts both rows."""
    return any(row.bin_of(thing) != other.bin_of(thing) for thing in box((0,) * measures, (most,) * measures))


class Parting(unittest.TestCase):
    def told(self, row, other, parted):
        for one, two in ((row, other), (other, row)):
            thing = parting(one, two)
            self.assertEqual(parting(row=one, other=two), thing)
            if not parted:
                self.assertIsNone(thing)
                continue
            self.assertTrue(is_thing(thing) and is_plain(thing))
            self.assertEqual(len(thing), len((one.holes() + two.holes())[0][0]))
            self.assertNotEqual(one.bin_of(thing), two.bin_of(thing))

    def test_rows_without_holes(self):
        self.told(Row([]), Row([]), False)
        for measures in range(1, 9):
            self.told(Row([]), Row([((0,) * measures, "a")]), True)
            self.told(Row([]), Row([((G,) * measures, "a")]), True)
        self.told(Row([]), Row([((4 * G,), "a"), ((4 * G,), "b")]), True)

    def test_a_row_and_itself(self):
        for seed in range(30):
            row = some_row(seed, 1 + seed % 8, seed % 12, most=9)
            self.told(row, Row(row.holes()), False)

    def test_bins_unlike(self):
        self.told(Row([((5,), "a")]), Row([((5,), "b")]), True)
        self.told(Row([((0,), "a")]), Row([((0,), "b")]), True)
        self.told(Row([((5,), "a"), ((5,), "b")]), Row([((5,), "a"), ((5,), "c")]), False)
        self.told(Row([((5,), "a"), ((6,), "b")]), Row([((5,), "a"), ((6,), "c")]), True)

    def test_a_hole_that_takes_nothing(self):
        pairs = [((5, 2), "a"), ((2, 5), "b"), ((9, 9), "c")]
        row = Row(pairs)
        self.told(row, Row(pairs[:1] + [((4, 2), "x")] + pairs[1:]), False)
        self.told(row, Row(pairs[:2] + [((5, 1), "x")] + pairs[2:]), False)
        self.told(row, Row(pairs + [((9, 8), "x")]), False)
        self.told(row, Row(pairs + [((9, 10), "x")]), True)
        self.told(row, Row(pairs[:2] + [((3, 3), "x")] + pairs[2:]), True)
        self.told(row, Row(pairs[:2] + [((3, 3), "c")] + pairs[2:]), False)

    def test_two_holes_exchanged(self):
        self.told(Row([((5, 2), "a"), ((2, 5), "b")]), Row([((2, 5), "b"), ((5, 2), "a")]), True)
        self.told(Row([((5, 2), "a"), ((2, 5), "a")]), Row([((2, 5), "a"), ((5, 2), "a")]), False)
        # What both take a hole ahead of both takes.
        ahead = [((2, 2), "c")]
        self.told(
            Row(ahead + [((5, 2), "a"), ((2, 5), "b")]), Row(ahead + [((2, 5), "b"), ((5, 2), "a")]), False
        )
        self.told(Row([((5,), "a"), ((6,), "b")]), Row([((6,), "b"), ((5,), "a")]), True)

    def test_out_by_one_alone(self):
        self.told(Row([((5,), "a")]), Row([((6,), "a")]), True)
        self.told(Row([((5,), "a")]), Row([((5,), "a"), ((6,), "a")]), True)
        self.told(Row([((5,), "a")]), Row([((5,), "a"), ((4,), "a")]), False)

    def test_holes_beyond_all_things(self):
        self.told(Row([((G,), "a")]), Row([((4 * G,), "a")]), False)
        self.told(Row([((G - 1,), "a")]), Row([((G,), "a")]), True)
        self.assertEqual(parting(Row([((G - 1,), "a")]), Row([((4 * G,), "a")])), (G,))
        self.told(Row([((G, 5), "a")]), Row([((2 * G, 5), "a"), ((3 * G, 5), "b")]), False)
        self.told(Row([((G, 5), "a")]), Row([((2 * G, 5), "a"), ((3 * G, 6), "b")]), True)
        self.told(Row([((4 * G,) * 8, "a")]), Row([((G,) * 8, "a"), ((4 * G,) * 8, "b")]), False)
        self.told(Row([((4 * G,) * 8, "a")]), Row([((G,) * 7 + (G - 1,), "a"), ((4 * G,) * 8, "b")]), True)

    def test_at_0(self):
        self.told(Row([((0, 0), "a"), ((5, 5), "b")]), Row([((5, 5), "b")]), True)
        self.assertEqual(parting(Row([((0, 0), "a"), ((5, 5), "b")]), Row([((5, 5), "b")])), (0, 0))
        self.told(Row([((0,), "a"), ((5,), "b")]), Row([((0,), "c"), ((5,), "b")]), True)

    def test_against_all_things(self):
        found = {True: 0, False: 0}
        for seed in range(400):
            chance = random.Random(seed)
            measures = 1 + seed % 3
            one = some_row(seed, measures, chance.randint(0, 4), names="ab", most=2)
            other = some_row(seed + 1000, measures, chance.randint(0, 4), names="ab", most=2)
            if seed % 2 and len(one) > 1:
                pairs = one.holes()
                place = chance.randrange(len(pairs))
                pairs.insert(chance.randint(0, len(pairs)), (pairs[place][0], chance.choice("ab")))
                other = Row(pairs)
            parted = parts_small(one, other, measures, 3)
            self.told(one, other, parted)
            found[parted] += 1
        self.assertGreater(min(found.values()), 50)

    def test_sixty_holes(self):
        chance = random.Random(1)
        for most in (9, G):
            pairs = [(some_thing(chance, 8, most), "ab"[at % 2]) for at in range(60)]
            self.told(Row(pairs), Row(pairs), False)
            last = pairs[-1][0]
            pairs[-1] = ((4 * G,) * 8, "a")
            self.told(Row(pairs), Row(pairs[:-1] + [((4 * G,) * 8, "b")]), True)
            self.told(Row(pairs), Row(pairs[:-1] + [(last, "a")]), True)
        stair = [((at, 60 - at), "ab"[at % 2]) for at in range(60)]
        self.told(Row(stair), Row(stair[::-1]), True)
        same = [(hole, "a") for hole, _ in stair]
        self.told(Row(same), Row(same[::-1]), False)
        self.told(Row(same), Row(same[:30] + same[31:]), True)


class Spared(unittest.TestCase):
    def check(self, row):
        places = [place for place in range(len(row)) if parting(row, left_out(row, place)) is None]
        self.assertEqual(spared(row), places)
        self.assertEqual(spared(row=row), places)
        self.assertTrue(type(spared(row)) is list and is_plain(spared(row)))
        left = row
        while spared(left):
            left = left_out(left, spared(left)[-1])
        self.assertEqual(bared(row), left)
        self.assertEqual(bared(row=row), left)
        self.assertIs(type(bared(row)), Row)
        self.assertIsNone(parting(row, bared(row)))
        self.assertEqual(spared(bared(row)), [])
        return places

    def test_without_holes(self):
        self.assertEqual(self.check(Row([])), [])
        self.assertEqual(bared(Row([])), Row([]))

    def test_one_hole(self):
        for hole in ((0,), (G,), (4 * G,)):
            self.assertEqual(self.check(Row([(hole, "a")])), [])

    def test_a_hole_twice(self):
        row = Row([((5,), "a"), ((5,), "a")])
        self.assertEqual(self.check(row), [0, 1])
        self.assertEqual(bared(row), Row([((5,), "a")]))
        self.assertEqual(self.check(Row([((5,), "a"), ((5,), "b")])), [1])
        self.assertEqual(self.check(Row([((5,), "a")] * 60)), list(range(60)))

    def test_the_greatest_goes_first(self):
        row = Row([((5, 5), "a"), ((5, 4), "b"), ((9, 5), "a")])
        self.assertEqual(self.check(row), [0, 1] if parting(row, left_out(row, 0)) is None else [1])
        row = Row([((3,), "a"), ((4,), "a"), ((5,), "a"), ((2,), "b")])
        self.assertEqual(self.check(row), [0, 1, 3])
        self.assertEqual(bared(row), Row([((5,), "a")]))
        # Each one alone can be left out, both together can't.
        row = Row([((2, 5), "a"), ((3, 3), "b"), ((2, 5), "a")])
        self.check(row)
        row = Row([((4, 1), "a"), ((4, 1), "a"), ((9, 9), "b")])
        self.assertEqual(self.check(row), [0, 1])
        self.assertEqual(bared(row), Row([((4, 1), "a"), ((9, 9), "b")]))

    def test_one_left_out_frees_one_ahead(self):
        # Behind the first hole b keeps what would else come to c; without b it is left to c all the same.
        row = Row([((5, 5), "c"), ((5, 5), "b"), ((9, 9), "c")])
        self.assertEqual(self.check(row), [1])
        self.assertEqual(bared(row), Row([((9, 9), "c")]))

    def test_holes_beyond_all_things(self):
        row = Row([((G, 3), "a"), ((3 * G, 3), "b"), ((4 * G, 4), "a")])
        self.assertEqual(self.check(row), [1])
        self.assertEqual(bared(row), Row([((4 * G, 4), "a")]))

    def test_against_all_things(self):
        freed = 0
        for seed in range(200):
            measures = 1 + seed % 3
            row = some_row(seed, measures, seed % 7, names="ab", most=2)
            places = self.check(row)
            plain = [place for place in range(len(row)) if not parts_small(row, left_out(row, place), measures, 3)]
            self.assertEqual(places, plain)
            freed += len(row) - len(bared(row)) > len(places)
        self.assertGreater(freed, 0)

    def test_sixty_holes(self):
        chance = random.Random(3)
        self.check(Row([(some_thing(chance, 2, 30), chance.choice("ab")) for _ in range(60)]))
        stair = Row([((at, 60 - at), "ab"[at % 2]) for at in range(60)])
        self.assertEqual(spared(stair), [])
        self.assertEqual(bared(stair), stair)

    def test_what_is_handed_in_stays(self):
        row = Row([((5,), "a"), ((5,), "a")])
        bared(row)
        spared(row).clear()
        self.assertEqual(row, Row([((5,), "a"), ((5,), "a")]))
        self.assertEqual(spared(row), [0, 1])
