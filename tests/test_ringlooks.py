"""[13] the look at links."""

import random
import unittest

from gapgrades.grading import graded
from gapgrades.lots import Lot
from gapgrades.ringlooks import shows_ring
from gapgrades.things import fits
from support import anything, box, lot_of_arrows, ring_sorts, some_arrows, some_lot

G = 10 ** 9
ALL = ("all",)
# a, b and c are in a ring; d is behind it and shares nothing with them.
SORTS = ring_sorts(3) + [("d", (9, 9, 9), ("worth", ("low",), 8))]
LOT = Lot(SORTS)
LINKS = [("a", (2, 1, 1)), ("b", (1, 2, 1)), ("c", (1, 1, 2))]


def is_ring(lot, links):
    """The words of [13], for what is a list of tuples (name, thing) with things."""
    names = [name for name, _ in links]
    if len(links) < 2 or len(set(names)) < len(names) or not set(names) <= set(lot.names()):
        return False
    return all(
        lot.has(name, thing) and fits(thing, lot.sort_of(after)[1])
        for (name, thing), after in zip(links, names[1:] + names[:1])
    )


class Looks(unittest.TestCase):
    def look(self, told, links, lot=LOT):
        self.assertIs(shows_ring(lot, links), told, links)
        self.assertIs(shows_ring(lot=lot, thing=links), told, links)

    def changed(self, at, link):
        return LINKS[:at] + [link] + LINKS[at + 1:]

    def test_what_graded_tells(self):
        self.look(True, graded(LOT)[1])
        self.look(True, LINKS)
        seen = 0
        for seed in range(150):
            lot = some_lot(seed, 1 + seed % 8, 2 + seed % 11, most=20)
            kind, told = graded(lot)
            if kind == "ring":
                self.look(True, told, lot)
                seen += 1
        self.assertGreater(seen, 30)

    def test_turned_round(self):
        for turn in range(3):
            self.look(True, LINKS[turn:] + LINKS[:turn])

    def test_in_another_order(self):
        self.look(False, LINKS[::-1])
        self.look(False, [LINKS[1], LINKS[0], LINKS[2]])
        two = [("a", (2, 1)), ("b", (1, 2))]
        self.look(False, two, lot_of_arrows([], 2))
        both = lot_of_arrows([("a", "b"), ("b", "a")], 2)
        self.look(True, graded(both)[1], both)
        self.look(True, graded(both)[1][::-1], both)

    def test_a_lesser_thing_as_far_as_its_rule_keeps_it(self):
        self.look(True, self.changed(0, ("a", (2, 0, 1))))
        self.look(True, self.changed(0, ("a", (2, 0, 0))))
        self.look(False, self.changed(0, ("a", (1, 1, 1))))
        self.look(False, self.changed(0, ("a", (0, 0, 0))))

    def test_a_thing_one_greater(self):
        for thing in ((3, 1, 1), (2, 2, 1), (2, 1, 2)):
            self.look(False, self.changed(0, ("a", thing)))
        # The greatest thing of a is of its sort, but doesn't fit the greatest one of b.
        self.assertTrue(LOT.has("a", (2, 1, 2)))

    def test_a_thing_within_the_next_one_but_not_of_its_sort(self):
        lot = Lot([("a", (4,), ("size", 0, 3)), ("b", (9,), ("size", 0, 3))])
        self.look(True, [("a", (4,)), ("b", (4,))], lot)
        self.look(True, [("a", (3,)), ("b", (4,))], lot)
        self.look(False, [("a", (5,)), ("b", (4,))], lot)
        self.look(False, [("a", (2,)), ("b", (4,))], lot)
        self.look(False, [("a", (4,)), ("b", (5,))], lot)

    def test_names(self):
        for name in ("b", "c", "d", "x", "", "A", "ab", None, 1, ("a",), ["a"], {"a": 1}):
            self.look(False, self.changed(0, (name, (2, 1, 1))))

    def test_a_name_twice(self):
        self.look(False, LINKS + LINKS)
        self.look(False, LINKS + [LINKS[0]])
        self.look(False, [("a", (2, 1, 1)), ("a", (2, 1, 1))])

    def test_one_link_alone_and_none(self):
        self.look(False, [])
        self.look(False, ())
        self.look(False, [("a", (2, 1, 1))])
        self.look(False, [("a", (5,))], Lot([("a", (5,), ALL)]))
        self.look(False, [], Lot([]))

    def test_one_link_out(self):
        for at in range(3):
            self.look(False, LINKS[:at] + LINKS[at + 1:])

    def test_one_link_more(self):
        self.look(False, LINKS + [("d", (9, 9, 9))])
        self.look(False, [("d", (9, 9, 9))] + LINKS)

    def test_parts_of_a_link(self):
        thing = (2, 1, 1)
        for link in (
            ["a", thing], ("a",), ("a", thing, 1), ("a", thing, ()), (thing, "a"), (), "a", None, {"a": thing},
            ("a", [2, 1, 1]), ("a", (2, 1)), ("a", (2, 1, 1, 1)), ("a", (True, 1, 1)), ("a", (2, True, 1)),
            ("a", (2, -1, 1)), ("a", "2x1x1"), ("a", None), ("a", ()), ("a", (2, 1, None)), ("a", 2),
        ):
            self.look(False, self.changed(0, link))

    def test_a_tuple_in_the_place_of_the_list(self):
        self.look(True, tuple(LINKS))
        self.look(False, tuple(LINKS[:2]))

    def test_a_dict_in_its_place(self):
        self.look(False, dict(LINKS))
        self.look(False, {link: True for link in LINKS})

    def test_of_anything(self):
        for thing in anything():
            for lot in (LOT, Lot([]), Lot([("a", (1,), ALL), ("b", (1,), ALL)])):
                self.look(False, thing, lot)
            for at in range(3):
                self.look(False, self.changed(at, thing))
                self.look(False, self.changed(at, (LINKS[at][0], thing)))
                if thing != LINKS[at][0]:
                    self.look(False, self.changed(at, (thing, LINKS[at][1])))

    def test_great_ones(self):
        lot = Lot([("a", (G,) * 8, ("worth", ("times",), (G - 1) ** 8)), ("b", (G - 1,) * 8, ALL)])
        self.look(True, [("a", (G - 1,) * 8), ("b", (G - 1,) * 8)], lot)
        self.look(True, [("a", (G - 1,) * 8), ("b", (0,) * 8)], lot)
        self.look(False, [("a", (G,) * 8), ("b", (0,) * 8)], lot)

    def test_what_is_handed_in_stays(self):
        links = list(LINKS)
        shows_ring(LOT, links)
        self.assertEqual(links, LINKS)

    def test_against_the_words(self):
        found = {True: 0, False: 0}
        for seed in range(400):
            chance = random.Random(seed)
            lot = some_arrows(chance, 3, 60) if seed % 2 else some_lot(seed, 2, 3, most=2)
            things = list(box((0,) * lot.measures(), (3,) * lot.measures()))
            for _ in range(20):
                names = chance.sample("abc", chance.randint(2, 3))
                links = [(name, chance.choice(things)) for name in names]
                if chance.random() < 0.7:
                    links = [(name, chance.choice([t for t in things if lot.has(name, t)])) for name in names]
                self.look(is_ring(lot, links), links, lot)
                found[is_ring(lot, links)] += 1
        self.assertGreater(min(found.values()), 100)
