"""[16] needs, and the look at them."""

import itertools
import random
import unittest

from gapgrades.grading import graded
from gapgrades.lots import Lot
from gapgrades.needlooks import shows_needs
from gapgrades.needs import needs
from gapgrades.ringlooks import shows_ring
from support import anything, is_plain, lot_of_arrows, ring_sorts, some_arrows, some_lot, some_stretches

ALL = ("all",)
TWO_RINGS = lot_of_arrows([("a", "b"), ("b", "c"), ("c", "a"), ("c", "d"), ("d", "e"), ("e", "d")], 5)


def without(lot, names):
    """The lot without the sorts of these names."""
    return Lot([sort for sort in lot.sorts() if sort[0] not in names])


def meets(names, rings):
    """Whether each ring has one of these names."""
    return all(any(name in names for name, _ in ring) for ring in rings)


def fewest(lot):
    """All lots of names, as few as can be, without which there is no ring, by trying."""
    for many in range(len(lot) + 1):
        found = [
            sorted(names) for names in itertools.combinations(lot.names(), many)
            if graded(without(lot, names))[0] == "row"
        ]
        if found:
            return found


def four_rings():
    """Twelve sorts in four rings of three, the later rings behind the earlier ones."""
    sorts = []
    for ring in range(4):
        for name, greatest, (_, place, number) in ring_sorts(3):
            name = "abcdefghijkl"[3 * ring + "abc".index(name)]
            rule = ("all", ("size", place, 10 * ring + number), ("worth", ("low",), 10 * ring + 1))
            sorts.append((name, tuple(10 * ring + measure for measure in greatest), rule))
    return Lot(sorts)


def is_so(lot, names, rings):
    """The words of [16], of lists of texts and of links."""
    if names not in fewest(lot) or not all(shows_ring(lot, ring) for ring in rings):
        return False
    return not any(
        meets(fewer, rings) for many in range(len(names)) for fewer in itertools.combinations(lot.names(), many)
    )


class Needs(unittest.TestCase):
    def check(self, lot):
        told = needs(lot)
        self.assertEqual(needs(lot=lot), told)
        self.assertTrue(type(told) is tuple and len(told) == 2 and is_plain(told))
        names, rings = told
        self.assertTrue(type(names) is list and type(rings) is list)
        self.assertIn(names, fewest(lot))
        self.assertTrue(is_so(lot, names, rings))
        for ring in rings:
            self.assertTrue(type(ring) is list and shows_ring(lot, ring))
        self.assertIs(shows_needs(lot, names, rings), True)
        return names, rings

    def test_no_ring(self):
        for lot in (Lot([]), Lot([("a", (5,), ALL)]), lot_of_arrows([], 5), lot_of_arrows([("a", "b"), ("b", "c")], 3)):
            self.assertEqual(self.check(lot), ([], []))

    def test_one_ring(self):
        for many in range(3, 9):
            names, rings = self.check(Lot(ring_sorts(many)))
            self.assertEqual(len(names), 1)
            self.assertTrue(rings)

    def test_two_that_share(self):
        names, rings = self.check(Lot([("b", (5,), ALL), ("a", (5,), ALL)]))
        self.assertEqual(len(names), 1)
        self.assertEqual(sorted(rings[0]), [("a", (5,)), ("b", (5,))])

    def test_rings_that_share_a_sort(self):
        lot = lot_of_arrows([("a", "b"), ("b", "a"), ("a", "c"), ("c", "a"), ("a", "d"), ("d", "a")], 4)
        self.assertEqual(self.check(lot)[0], ["a"])
        lot = lot_of_arrows([("b", "c"), ("c", "d"), ("d", "b"), ("d", "e"), ("e", "f"), ("f", "d")], 6)
        self.assertEqual(self.check(lot)[0], ["d"])

    def test_rings_that_share_none(self):
        self.assertEqual(len(self.check(TWO_RINGS)[0]), 2)
        lot = lot_of_arrows([("a", "b"), ("b", "a"), ("c", "d"), ("d", "c"), ("e", "f"), ("f", "e")], 6)
        self.assertEqual(len(self.check(lot)[0]), 3)

    def test_rings_of_which_no_two_are_apart(self):
        pairs = [("a", "b"), ("b", "a"), ("b", "c"), ("c", "b"), ("c", "a"), ("a", "c")]
        names, rings = self.check(lot_of_arrows(pairs, 3))
        self.assertEqual(len(names), 2)
        self.assertGreaterEqual(len(rings), 3)

    def test_names_rise_as_texts(self):
        sorts = [("b", (5,), ALL), ("aa", (5,), ALL), ("c", (5,), ALL), ("a", (5,), ALL)]
        for order in itertools.permutations(sorts):
            names = self.check(Lot(order))[0]
            self.assertEqual(len(names), 3)
            self.assertEqual(names, sorted(names))

    def test_twelve_sorts_in_four_rings(self):
        for seed in range(5):
            sorts = four_rings().sorts()
            random.Random(seed).shuffle(sorts)
            names, rings = self.check(Lot(sorts))
            self.assertEqual(len(names), 4)
            self.assertEqual(sorted("abcdefghijkl".index(name) // 3 for name in names), [0, 1, 2, 3])

    def test_twelve_sorts_that_all_share(self):
        lot = Lot([(name, (5, 5), ALL) for name in "abcdefghijkl"])
        names, rings = needs(lot)
        self.assertEqual(len(names), 11)
        self.assertIs(shows_needs(lot, names, rings), True)
        self.assertIs(shows_needs(lot, names[1:], rings), False)
        self.assertIs(shows_needs(lot, list("abcdefghijkl"), rings), False)

    def test_against_all_lots_of_names(self):
        found = {}
        for seed in range(150):
            chance = random.Random(seed)
            lot = some_arrows(chance, 2 + seed % 6, (15, 25, 40, 70)[seed % 4])
            many = len(self.check(lot)[0])
            found[many] = found.get(many, 0) + 1
        for seed in range(100):
            chance = random.Random(seed)
            self.check(some_lot(seed, 1 + seed % 4, 2 + seed % 5, most=8))
            self.check(some_stretches(chance, 3, 2 + seed % 5))
        self.assertGreater(min(found[many] for many in (0, 1, 2, 3, 4)), 3)

    def test_told_lists_are_new_ones(self):
        lot = Lot(ring_sorts(3))
        names, rings = needs(lot)
        told = list(names), [list(ring) for ring in rings]
        rings[0].clear()
        rings.clear()
        names.clear()
        self.assertEqual(needs(lot), told)


class Looks(unittest.TestCase):
    RING = [("a", (2, 1, 1, 1, 1)), ("b", (1, 2, 1, 1, 1)), ("c", (1, 1, 2, 1, 1))]
    PAIR = [("d", (1, 1, 1, 2, 1)), ("e", (1, 1, 1, 1, 2))]

    def look(self, told, names, rings, lot=TWO_RINGS):
        self.assertIs(shows_needs(lot, names, rings), told, (names, rings))
        self.assertIs(shows_needs(lot=lot, names=names, rings=rings), told, (names, rings))

    def test_what_is_so(self):
        for one, other in itertools.product("abc", "de"):
            self.look(True, [one, other], [self.RING, self.PAIR])
        self.look(True, *needs(TWO_RINGS))

    def test_tuples_in_the_places_of_lists(self):
        self.look(True, ("a", "d"), (tuple(self.RING), tuple(self.PAIR)))
        self.look(True, ("a", "d"), [self.RING, tuple(self.PAIR)])

    def test_names(self):
        rings = [self.RING, self.PAIR]
        for names in (
            ["a"], ["d"], [], ["a", "b"], ["d", "e"], ["a", "b", "d"], ["a", "b", "c", "d", "e"], ["a", "a", "d"],
            ["a", "d", "d"], ["d", "a"], ["a", "x"], ["a", "d", "x"], ["A", "d"], ["a", ("d",)], ["a", None],
            ["a", ["d"]], "ad", {"a": True, "d": True}, ["ad"], [["a", "d"]], None,
        ):
            self.look(False, names, rings)

    def test_rings(self):
        names = ["a", "d"]
        turned = self.RING[1:] + self.RING[:1]
        self.look(True, names, [self.PAIR, turned])
        self.look(True, names, [self.PAIR[::-1], turned])
        self.look(True, names, [self.RING, self.PAIR, self.RING])
        self.look(True, names, [self.RING, turned, self.PAIR])
        for rings in (
            [self.RING], [self.PAIR], [], [self.RING, self.RING], [self.RING, turned], [self.RING[::-1], self.PAIR],
            [self.RING, self.PAIR[:1]], [self.RING, self.PAIR, []], [self.RING, self.PAIR, None],
            [self.RING + self.PAIR], self.RING, {"a": self.RING}, None, [[self.RING, self.PAIR]],
        ):
            self.look(False, names, rings)

    def test_a_link_otherwise(self):
        names = ["a", "d"]
        first = self.RING[0]
        self.look(True, names, [[("a", (2, 0, 0, 0, 0)), *self.RING[1:]], self.PAIR])
        for link in (
            ("b", first[1]), ("d", first[1]), ("x", first[1]), ("a", (1, 1, 1, 1, 1)), ("a", (3, 1, 1, 1, 1)),
            ("a", (2, 1, 2, 1, 1)), ("a", (2, 1, 1, 1)), list(first), first[:1], (*first, 1), ("a", list(first[1])),
            ("a", (2, True, 1, 1, 1)),
        ):
            self.look(False, names, [[link, *self.RING[1:]], self.PAIR])

    def test_no_ring(self):
        lot = lot_of_arrows([("a", "b")], 3)
        self.look(True, [], [], lot)
        self.look(True, (), (), lot)
        self.look(True, [], [], Lot([]))
        self.look(False, ["a"], [], lot)
        self.look(False, [], [[]], lot)
        self.look(False, [], [self.RING], lot)
        self.look(False, [], [], TWO_RINGS)

    def test_rings_that_fewer_names_meet(self):
        pairs = [("a", "b"), ("b", "a"), ("b", "c"), ("c", "b"), ("c", "a"), ("a", "c")]
        lot = lot_of_arrows(pairs, 3)
        names, rings = needs(lot)
        short = [ring for ring in rings if len(ring) == 2]
        self.look(True, names, short, lot)
        for at in range(3):
            self.look(False, names, short[:at] + short[at + 1:], lot)
        whole = [("a", (2, 1, 1)), ("b", (1, 2, 1)), ("c", (1, 1, 2))]
        self.assertTrue(shows_ring(lot, whole))
        self.look(True, names, short + [whole], lot)
        self.look(False, names, short[:2] + [whole], lot)

    def test_of_anything(self):
        rings = [self.RING, self.PAIR]
        for thing in anything():
            self.look(False, thing, rings)
            self.look(False, ["a", "d"], thing)
            self.look(False, thing, thing)
            self.look(False, ["a", "b", thing], rings)
            self.look(False, ["a", "d"], [self.RING, thing])
            self.look(False, ["a", "d"], [self.RING, self.PAIR, thing])
            self.look(False, ["a", "d"], [self.RING, self.PAIR + [thing]])
            self.look(thing in ([], ()), [], thing, Lot([]))
            self.look(thing in ([], ()), thing, [], Lot([]))

    def test_papers_with_one_thing_otherwise_against_the_words(self):
        found = {True: 0, False: 0}
        for seed in range(60):
            chance = random.Random(seed)
            lot = some_arrows(chance, 3 + seed % 4, 40)
            names, rings = needs(lot)
            papers = [(list(more), rings) for many in range(4) for more in itertools.combinations(lot.names(), many)]
            papers += [(names, rings[:at] + rings[at + 1:]) for at in range(len(rings))]
            papers += [(names, [rings[at]]) for at in range(len(rings))]
            for others in papers:
                told = is_so(lot, *others)
                self.look(told, *others, lot)
                found[told] += 1
        self.assertGreater(min(found.values()), 50)

    def test_what_is_handed_in_stays(self):
        names, rings = needs(TWO_RINGS)
        told = list(names), [list(ring) for ring in rings]
        shows_needs(TWO_RINGS, names, rings)
        self.assertEqual((names, rings), told)
