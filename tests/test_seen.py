"""[25], [26] a row never seen."""

import itertools
import random
import unittest

from gapgrades.errors import Against, NoPlace, NoThing
from gapgrades.rows import Row
from gapgrades.seen import Seen
from gapgrades.seenlooks import shows_why
from gapgrades.things import fits, join
from support import anything, box, is_plain, refusal, some_thing

G = 10 ** 9


def made(holes, measures, falls):
    """A row never seen that was told these falls."""
    seen = Seen(holes, measures=measures)
    for thing, place in falls:
        seen.saw(thing, place)
    return seen


def place_in(holes, thing):
    """Where the thing falls by these holes, how many there are for out."""
    for place, hole in enumerate(holes):
        if fits(thing, hole):
            return place
    return len(holes)


def does(holes, falls):
    """Whether by these holes all falls are so."""
    return all(place_in(holes, thing) == place for thing, place in falls)


def by_chance(seed, holes, measures, most, many):
    """A hidden row, and so many falls by it."""
    chance = random.Random(seed)
    hidden = [some_thing(chance, measures, most) for _ in range(holes)]
    things = [some_thing(chance, measures, most + 1) for _ in range(many)]
    return hidden, [(thing, place_in(hidden, thing)) for thing in things]


class Told(unittest.TestCase):
    def test_made_by_names(self):
        self.assertEqual(Seen(3), Seen(holes=3))
        self.assertEqual(Seen(3), Seen(3, measures=1))
        self.assertRaises(TypeError, Seen, 3, 1)
        seen = Seen(2)
        self.assertIsNone(seen.saw(thing=(4,), place=1))
        self.assertEqual(seen.places(thing=(4,)), [1])
        self.assertEqual(seen.why(thing=(4,), place=0), ("past", 0, []))

    def test_falls_are_told_in_order(self):
        falls = [((4, 4), 2), ((0, 0), 0), ((1, 3), 1), ((9, 9), 3), ((1, 3), 1), ((3, 1), 1)]
        seen = made(3, 2, falls)
        self.assertEqual(seen.falls(), falls)
        self.assertTrue(is_plain(seen.falls()))
        self.assertEqual(Seen(4).falls(), [])

    def test_told_lists_are_new_ones(self):
        seen = made(2, 1, [((4,), 1)])
        seen.falls().clear()
        seen.places((3,)).clear()
        seen.why((5,), 1)[1].clear()
        self.assertEqual(seen.falls(), [((4,), 1)])
        self.assertEqual(seen.places((3,)), [0, 1])
        self.assertEqual(seen.why((5,), 1)[0], "holes")
        self.assertEqual(len(seen.why((5,), 1)[1]), 2)

    def test_things_are_told_plain(self):
        class Thing(tuple):
            pass

        class Number(int):
            pass

        seen = Seen(2, measures=2)
        seen.saw(Thing((Number(3), 4)), Number(1))
        self.assertTrue(is_plain(seen.falls()))
        self.assertTrue(is_plain(seen.why(Thing((Number(9), 4)), 1)))
        refusal(self, Against, {"place": 1}, seen.saw, (3, 3), 2)
        seen.saw((9, 9), 2)
        with self.assertRaises(Against) as caught:
            seen.saw((9, 9), Number(1))
        self.assertTrue(is_plain(caught.exception.place))

    def test_equal(self):
        falls = [((4,), 1), ((5,), 1), ((9,), 2)]
        self.assertEqual(made(2, 1, falls), made(2, 1, falls))
        self.assertFalse(made(2, 1, falls) == made(2, 1, [falls[1], falls[0], falls[2]]))
        self.assertFalse(made(2, 1, falls) == made(2, 1, falls[:2]))
        self.assertFalse(made(2, 1, falls) == made(3, 1, falls))
        self.assertFalse(Seen(2) == Seen(2, measures=2))
        self.assertTrue(Seen(2) == Seen(2))
        self.assertFalse(made(2, 1, [((4,), 1)]) == made(2, 1, [((4,), 0)]))
        for thing in anything() + [Row([])]:
            self.assertFalse(Seen(1) == thing)
            self.assertFalse(thing == Seen(1))

    def test_hidden_rows_are_never_against(self):
        for seed in range(60):
            holes, measures = 1 + seed % 20, 1 + seed % 8
            hidden, falls = by_chance(seed, holes, measures, random.Random(seed).choice((1, 3, 20, G - 1)), 60)
            seen = made(holes, measures, falls)
            self.assertEqual(seen.falls(), falls)
            self.assertTrue(all(place in seen.places(thing) for thing, place in falls))
            told = seen.why((0,) * measures, 0)
            self.assertEqual(told[0], "holes")
            self.assertTrue(does(told[1], falls))

    def test_measures_as_told(self):
        for measures in range(1, 9):
            seen = Seen(1, measures=measures)
            seen.saw((1,) * measures, 1)
            self.assertEqual(seen.places((G,) * measures), [1])


class Refused(unittest.TestCase):
    def test_no_thing(self):
        seen = made(2, 2, [((4, 4), 1)])
        wrong = [(1,), (1, 2, 3), (-1, 0), (0, G + 1), (True, 0), [1, 2], (1, "2"), (1, None), ((1, 2),)] + anything()
        for thing in wrong:
            refusal(self, NoThing, {}, seen.saw, thing, 1)
            refusal(self, NoThing, {}, seen.places, thing)
            refusal(self, NoThing, {}, seen.why, thing, 1)
            refusal(self, NoThing, {}, shows_why, seen, thing, 1, ("holes", [(4, 4), (4, 4)]))
        self.assertEqual(seen, made(2, 2, [((4, 4), 1)]))

    def test_no_place(self):
        seen = made(2, 2, [((4, 4), 1)])
        wrong = [-1, 3, G, True, False, (1,), "1"] + [thing for thing in anything() if thing not in (0, 1, True, False)]
        for place in wrong:
            refusal(self, NoPlace, {"place": place}, seen.saw, (4, 4), place)
            refusal(self, NoPlace, {"place": place}, seen.why, (4, 4), place)
            refusal(self, NoPlace, {"place": place}, shows_why, seen, (4, 4), place, None)
        for thing in (None, (1,), (G + 1, 1)):
            refusal(self, NoThing, {}, seen.saw, thing, None)
            refusal(self, NoThing, {}, seen.why, thing, -1)
            refusal(self, NoThing, {}, shows_why, seen, thing, 3, None)
        self.assertEqual(seen, made(2, 2, [((4, 4), 1)]))

    def test_a_place_is_told_as_a_copy(self):
        place = [[1]]
        with self.assertRaises(NoPlace) as caught:
            Seen(2).saw((1,), place)
        place[0].append(2)
        self.assertEqual(caught.exception.place, [[1]])

    def test_against_an_elder_place(self):
        seen = made(3, 1, [((4,), 0), ((8,), 1), ((9,), 2)])
        for thing, place, told in (
            ((4,), 1, 0), ((4,), 2, 0), ((0,), 3, 0), ((5,), 2, 1), ((8,), 3, 1), ((9,), 3, 2), ((3,), 3, 0),
        ):
            refusal(self, Against, {"place": told}, seen.saw, thing, place)

    def test_against_its_own_place(self):
        seen = made(3, 1, [((4,), 0), ((8,), 1), ((9,), 2)])
        for thing, place in (((8,), 0), ((9,), 0), ((9,), 1), ((G,), 0), ((G,), 1)):
            refusal(self, Against, {"place": place}, seen.saw, thing, place)
        seen.saw((G,), 2)
        refusal(self, Against, {"place": 2}, seen.saw, (G,), 3)
        seen = made(3, 2, [((4, 1), 1), ((3, 3), 3)])
        refusal(self, Against, {"place": 1}, seen.saw, (1, 4), 1)
        refusal(self, Against, {"place": 2}, seen.saw, (4, 4), 2)
        seen.saw((1, 2), 1)

    def test_against_the_least_place(self):
        # It is within what fell at 0, and with it what fell out would be within what fell at 1.
        seen = made(3, 2, [((2, 2), 0), ((1, 9), 1), ((2, 9), 3)])
        refusal(self, Against, {"place": 0}, seen.saw, (2, 1), 1)
        refusal(self, Against, {"place": 1}, seen.saw, (3, 1), 1)
        refusal(self, Against, {"place": 1}, seen.saw, (1, 8), 2)
        refusal(self, Against, {"place": 0}, seen.saw, (0, 0), 2)

    def test_of_none_all_measures_0(self):
        for holes in (1, 2, 20):
            for measures in (1, 8):
                nought = (0,) * measures
                seen = Seen(holes, measures=measures)
                self.assertEqual(seen.places(nought), [0])
                for place in range(1, holes + 1):
                    refusal(self, Against, {"place": 0}, seen.saw, nought, place)
                seen.saw(nought, 0)
                self.assertEqual(seen.places((0,) * (measures - 1) + (1,)), list(range(holes + 1)))

    def test_what_is_refused_changes_nothing(self):
        seen = made(2, 1, [((4,), 0), ((9,), 1)])
        for thing, place in ((None, 0), ((5,), 3), ((9,), 0), ((3,), 1), ((9,), 2)):
            self.assertRaises((NoThing, NoPlace, Against), seen.saw, thing, place)
        self.assertEqual(seen, made(2, 1, [((4,), 0), ((9,), 1)]))
        self.assertEqual(seen.places((8,)), [0, 1])
        self.assertEqual(seen.places((5,)), [0, 1])

    def test_the_least_place_by_chance(self):
        found = {}
        for seed in range(400):
            chance = random.Random(seed)
            holes, measures = chance.randint(1, 4), chance.randint(1, 3)
            _, falls = by_chance(seed, holes, measures, 4, chance.randint(0, 8))
            thing, place = some_thing(chance, measures, 5), chance.randint(0, holes)
            seen = made(holes, measures, falls)
            after = falls + [(thing, place)]
            least = None
            for at in reversed(range(holes)):
                cap = (0,) * measures
                for fallen, where in after:
                    cap = join(cap, fallen) if where == at else cap
                if any(where > at and fits(fallen, cap) for fallen, where in after):
                    least = at
            if least is None:
                seen.saw(thing, place)
                self.assertEqual(seen.falls(), after)
            else:
                refusal(self, Against, {"place": least}, seen.saw, thing, place)
                self.assertEqual(seen.falls(), falls)
            found[least] = found.get(least, 0) + 1
        self.assertGreater(min(found[least] for least in (None, 0, 1, 2)), 4)


class Places(unittest.TestCase):
    def test_of_nothing_told(self):
        for holes in range(1, 21):
            self.assertEqual(Seen(holes).places((1,)), list(range(holes + 1)))

    def test_against_all_rows(self):
        for seed in range(120):
            chance = random.Random(seed)
            holes, measures = chance.choice(((1, 1), (2, 1), (3, 1), (1, 2), (2, 2), (3, 2), (2, 3)))
            most = 2 if measures > 1 else 4
            if (holes, measures) == (2, 3):
                most = 1
            _, falls = by_chance(seed, holes, measures, most, chance.randint(0, 5))
            seen = made(holes, measures, falls)
            # No thing below has a measure beyond this, so no row that may be is left out.
            caps = list(box((0,) * measures, (most + 1,) * measures))
            rows = [row for row in itertools.product(caps, repeat=holes) if does(row, falls)]
            self.assertTrue(rows)
            for thing in caps:
                places = sorted({place_in(row, thing) for row in rows})
                self.assertEqual(seen.places(thing), places)
                self.assertTrue(is_plain(seen.places(thing)))
                for place in range(holes + 1):
                    self.assertIs(seen.why(thing, place)[0] == "holes", place in places)


class Why(unittest.TestCase):
    def check(self, seen, holes, measures, thing, place):
        told = seen.why(thing, place)
        self.assertEqual(seen.why(thing=thing, place=place), told)
        self.assertTrue(type(told) is tuple and is_plain(told) and type(told[-1]) is list)
        self.assertIs(shows_why(seen, thing, place, told), True)
        self.assertIs(shows_why(seen=seen, thing=thing, place=place, paper=told), True)
        falls = seen.falls()
        self.assertIs(told[0] == "holes", place in seen.places(thing))
        if told[0] == "holes":
            self.assertEqual(len(told), 2)
            self.assertEqual(len(Row([(hole, "a") for hole in told[1]])), holes)
            self.assertTrue(does(told[1], falls + [(thing, place)]))
            return told[0]
        self.assertEqual(len(told), 3)
        self.assertEqual(told[2], sorted(set(told[2])))
        self.assertLessEqual(len(told[2]), measures)
        cap = (0,) * measures
        for number in told[2]:
            cap = join(cap, falls[number][0])
        wheres = {falls[number][1] for number in told[2]}
        if told[0] == "ahead":
            self.assertTrue(0 <= told[1] < place and wheres <= {told[1]} and fits(thing, cap))
        else:
            self.assertEqual(told[0], "past")
            self.assertTrue(falls[told[1]][1] > place and wheres <= {place})
            self.assertTrue(fits(falls[told[1]][0], join(thing, cap)))
        return told[0]

    def test_each_kind(self):
        seen = made(2, 2, [((4, 1), 0), ((1, 4), 0), ((4, 5), 1), ((5, 5), 2)])
        self.assertEqual(seen.why((4, 4), 1), ("ahead", 0, [0, 1]))
        self.assertEqual(seen.why((4, 4), 2), ("ahead", 0, [0, 1]))
        self.assertEqual(seen.why((2, 4), 1)[:2], ("ahead", 0))
        self.assertEqual(seen.why((1, 5), 0)[:2], ("past", 2))
        self.assertEqual(seen.why((1, 5), 0)[2], [0])
        self.assertEqual(seen.why((5, 1), 1), ("past", 3, [2]))
        self.assertEqual(seen.why((5, 5), 0), ("past", 2, []))
        self.assertEqual(seen.why((0, 0), 2), ("ahead", 0, []))
        self.assertEqual(seen.why((4, 5), 2), ("ahead", 1, [2]))
        self.assertEqual(seen.why((9, 1), 2)[0], "holes")
        self.assertEqual(seen.why((9, 1), 0)[0], "holes")
        for thing in box((0, 0), (6, 6)):
            for place in range(3):
                self.check(seen, 2, 2, thing, place)

    def test_without_falls(self):
        for measures in (1, 3, 8):
            seen = Seen(3, measures=measures)
            nought = (0,) * measures
            self.assertEqual(self.check(seen, 3, measures, nought, 0), "holes")
            for place in (1, 2, 3):
                self.assertEqual(seen.why(nought, place), ("ahead", 0, []))
            for place in range(4):
                self.assertEqual(self.check(seen, 3, measures, (0,) * (measures - 1) + (1,), place), "holes")
                self.assertEqual(self.check(seen, 3, measures, (G,) * measures, place), "holes")

    def test_one_fall_a_measure(self):
        measures = 8
        falls = [(tuple(9 if at == place else 0 for at in range(measures)), 0) for place in range(measures)]
        seen = made(1, measures, falls[::-1])
        self.assertEqual(seen.why((9,) * measures, 1), ("ahead", 0, list(range(8))))
        self.assertEqual(seen.why((9,) * 7 + (0,), 1), ("ahead", 0, list(range(1, 8))))

    def test_by_chance(self):
        found = {}
        for seed in range(150):
            chance = random.Random(seed)
            holes, measures, most = chance.randint(1, 20), chance.randint(1, 8), chance.choice((2, 9, G - 1))
            if seed % 2:
                holes, measures = chance.randint(1, 4), chance.randint(1, 3)
            _, falls = by_chance(seed, holes, measures, most, chance.randint(0, 40))
            seen = made(holes, measures, falls)
            things = [some_thing(chance, measures, most + 1) for _ in range(4)] + [thing for thing, _ in falls[:3]]
            for thing in things + [(0,) * measures]:
                for place in range(holes + 1):
                    kind = self.check(seen, holes, measures, thing, place)
                    found[kind] = found.get(kind, 0) + 1
        self.assertGreater(min(found[kind] for kind in ("holes", "ahead", "past")), 50)


class Look(unittest.TestCase):
    def setUp(self):
        # The numbers: 0, 1, 2 fell at 0; 3, 4 at 1; 5, 6 out.
        self.falls = [((4, 1), 0), ((1, 4), 0), ((4, 4), 0), ((4, 6), 1), ((5, 1), 1), ((5, 7), 2), ((6, 6), 2)]
        self.seen = made(2, 2, self.falls)

    def say(self, told, thing, place, *papers):
        for paper in papers:
            self.assertIs(shows_why(self.seen, thing, place, paper), told, paper)

    def test_holes(self):
        right = [(4, 4), (5, 6)]
        self.say(True, (5, 5), 1, ("holes", right), ("holes", tuple(right)), ("holes", [(4, 5), (5, 6)]))
        self.say(True, (4, 5), 0, ("holes", [(4, 5), (5, 6)]))
        self.say(
            False, (5, 5), 1, ("holes", [(4, 6), (5, 6)]), ("holes", [(3, 4), (5, 6)]), ("holes", [(4, 4), (5, 7)]),
            ("holes", [(4, 4)]), ("holes", right + [(9, 9)]), ("holes", []), ("holes",), ("holes", right, []),
            ["holes", right], ("hole", right), (right,), ("holes", [(4, 4), (5, 6, 1)]), ("holes", [(4,), (5,)]),
            ("holes", [(4, 4, 4), (5, 6, 6)]), ("holes", [[4, 4], [5, 6]]), ("holes", [(4, 4), (5, 4 * G + 1)]),
            ("holes", [(4, 4), (5, -1)]), ("holes", [(4, 4), (5, True)]), ("holes", [(4, 4), None]), ("holes", None),
            ("holes", {0: (4, 4), 1: (5, 6)}), ("holes", "ab"), ("holes", 2), ("holes", [((4, 4), "a"), ((5, 6), "b")]),
            ("past", right), ("ahead", right),
        )
        self.say(False, (5, 5), 0, ("holes", right))
        self.say(False, (5, 5), 2, ("holes", right))
        self.say(True, (0, 7), 2, ("holes", right))
        self.say(False, (0, 7), 1, ("holes", right))

    def test_holes_beyond_the_things(self):
        seen = made(2, 1, [((G,), 1), ((G - 1,), 0)])
        for holes, told in (([(G - 1,), (4 * G,)], True), ([(G - 1,), (4 * G + 1,)], False), ([(G,), (G,)], False)):
            self.assertIs(shows_why(seen, (5,), 0, ("holes", holes)), told)

    def test_ahead(self):
        self.say(
            True, (4, 4), 1, ("ahead", 0, [0, 1]), ("ahead", 0, (0, 1)), ("ahead", 0, [2]), ("ahead", 0, [0, 2]),
            ("ahead", 0, [1, 2]),
        )
        self.say(
            False, (4, 4), 1, ("ahead", 0, [0]), ("ahead", 0, [1]), ("ahead", 0, []), ("ahead", 0, [1, 0]),
            ("ahead", 0, [2, 2]), ("ahead", 0, [0, 1, 2]), ("ahead", 1, [0, 1]), ("ahead", 1, [3]), ("ahead", -1, [2]),
            ("ahead", 2, [5]), ("ahead", False, [2]), ("ahead", None, [2]), ("ahead", "0", [2]), ("ahead", (0,), [2]),
            ("ahead", 0, [3]), ("ahead", 0, [2, 3]), ("ahead", 0, [-5]), ("ahead", 0, [7]), ("ahead", 0, [False, True]),
            ("ahead", 0, [0, True]), ("ahead", 0, ["2"]), ("ahead", 0, [None]), ("ahead", 0, [[2]]), ("ahead", 0, {2: 1}),
            ("ahead", 0, 2), ("ahead", 0, None), ("ahead", 0), ("ahead", 0, [2], []), ["ahead", 0, [2]], ("past", 0, [2]),
            ("Ahead", 0, [2]), (0, [2]), ("ahead", 0, [10 ** 79]),
        )
        self.say(True, (4, 4), 2, ("ahead", 0, [2]))
        self.say(False, (4, 4), 0, ("ahead", 0, [2]))
        self.say(True, (5, 6), 2, ("ahead", 1, [3, 4]))
        self.say(False, (5, 6), 2, ("ahead", 1, [3]), ("ahead", 0, [2]), ("ahead", True, [3, 4]))
        self.say(True, (0, 0), 1, ("ahead", 0, []), ("ahead", 0, ()), ("ahead", 0, [1]))
        self.say(True, (0, 0), 2, ("ahead", 1, []), ("ahead", 0, []))
        self.say(False, (0, 0), 0, ("ahead", 0, []), ("ahead", -1, []))
        self.say(False, (0, 1), 2, ("ahead", 1, []), ("ahead", 0, []))

    def test_past(self):
        self.say(True, (6, 1), 1, ("past", 6, [3]), ("past", 6, (3,)), ("past", 6, [3, 4]))
        self.say(
            False, (6, 1), 1, ("past", 6, []), ("past", 6, [4]), ("past", 5, [3]), ("past", 5, [3, 4]), ("past", 3, [3]),
            ("past", 6, [2]), ("past", 6, [2, 3]), ("past", 6, [3, 3]), ("past", 6, [4, 3]), ("past", 7, [3]),
            ("past", -1, [3]), ("past", True, [3]), ("past", None, [3]), ("past", "6", [3]), ("past", 6, [True, 3]),
            ("past", 6, [5, 6]), ("past", 6, [6]), ("past", 6), ("past", 6, [3], 1), ["past", 6, [3]], ("past", [3], 6),
            ("past", 6, None), ("past", 6, {3: 4}), ("past", [6], [3]), ("ahead", 6, [3]), ("past", 6, [3, None]),
            ("past", 6, [3, 10 ** 79]), ("past", 10 ** 79, [3]),
        )
        self.say(True, (5, 7), 1, ("past", 5, []))
        self.say(True, (4, 6), 0, ("past", 3, []), ("past", 3, [2]))
        self.say(False, (5, 7), 2, ("past", 5, []), ("past", 6, []), ("past", 3, []))
        self.say(False, (6, 1), 0, ("past", 6, [3]), ("past", 6, [2]))
        self.say(True, (6, 1), 0, ("past", 4, []), ("past", 4, [0]), ("past", 4, [0, 1]))
        self.say(False, (6, 1), 0, ("past", 4, [0, 1, 2]), ("past", 3, [0, 1]), ("past", 0, []), ("past", 2, [1]))
        self.say(False, (6, 1), 0, ("past", False, []), ("past", 2, []))

    def test_truths_in_the_place_of_numbers(self):
        seen = made(1, 1, [((9,), 1), ((8,), 1), ((3,), 0)])
        self.assertIs(shows_why(seen, (9,), 0, ("past", 0, [])), True)
        self.assertIs(shows_why(seen, (9,), 0, ("past", 1, [])), True)
        self.assertIs(shows_why(seen, (9,), 0, ("past", True, [])), False)
        self.assertIs(shows_why(seen, (9,), 0, ("past", False, [])), False)
        seen = made(1, 1, [((3,), 0), ((3,), 0)])
        self.assertIs(shows_why(seen, (3,), 1, ("ahead", 0, [1])), True)
        self.assertIs(shows_why(seen, (3,), 1, ("ahead", 0, [True])), False)
        self.assertIs(shows_why(seen, (3,), 1, ("ahead", False, [1])), False)

    def test_of_anything(self):
        for thing in anything():
            self.say(False, (4, 4), 1, thing, ("holes", thing), ("ahead", 0, thing), ("ahead", [thing], [2]))
            self.say(False, (6, 1), 1, ("past", thing, [3]), ("past", 6, [thing]), (thing, 6, [3]), (thing, thing))
            self.say(False, (6, 1), 1, ("holes", [thing, thing]), (thing, [(4, 4), (5, 6)]))

    def test_papers_with_one_thing_otherwise(self):
        found = 0
        for seed in range(80):
            chance = random.Random(seed)
            holes, measures = chance.randint(1, 5), chance.randint(1, 4)
            _, falls = by_chance(seed, holes, measures, 4, 12)
            seen = made(holes, measures, falls)
            thing, place = some_thing(chance, measures, 5), chance.randint(0, holes)
            told = seen.why(thing, place)
            others = [("holes", [some_thing(chance, measures, 5) for _ in range(holes)]) for _ in range(3)]
            if told[0] != "holes":
                numbers = [sorted(chance.sample(range(12), chance.randint(0, 4))) for _ in range(4)]
                others += [(told[0], told[1], more) for more in numbers + [told[2][1:], told[2] + [11], told[2] * 2]]
                others += [(told[0], at, told[2]) for at in range(-1, 13)]
            for paper in others:
                right = self.is_right(falls, holes, measures, thing, place, paper)
                self.assertIs(shows_why(seen, thing, place, paper), right, paper)
                found += right
        self.assertGreater(found, 20)

    def is_right(self, falls, holes, measures, thing, place, paper):
        if paper[0] == "holes":
            return does(paper[1], falls + [(thing, place)])
        at = paper[1] if paper[0] == "ahead" else place
        numbers = paper[2]
        if numbers != sorted(set(numbers)) or len(numbers) > measures or any(falls[one][1] != at for one in numbers):
            return False
        cap = tuple(max([0] + [falls[one][0][part] for one in numbers]) for part in range(measures))
        if paper[0] == "ahead":
            return 0 <= at < place and fits(thing, cap)
        return 0 <= paper[1] < len(falls) and falls[paper[1]][1] > place and fits(falls[paper[1]][0], join(cap, thing))
