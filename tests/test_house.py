"""[31], [32] the house."""

import copy
import random
import unittest

from gapgrades.errors import (
    Empty, Held, NoDeed, NoName, NoPiece, NoSort, NoThing, Ringed, Twice, Unlike,
)
from gapgrades.grading import graded
from gapgrades.house import House
from gapgrades.lots import Lot
from gapgrades.putting import put_in
from gapgrades.rows import Row
from gapgrades.rules import keeps
from gapgrades.spreads import grades
from gapgrades.things import fits, is_thing
from support import anything, is_plain, refusal, ring_sorts, some_sort, some_thing

G = 10 ** 9
ALL = ("all",)
A = ("a", (5,), ALL)
B = ("b", (20,), ("size", 0, 10))
C = ("c", (9,), ("size", 0, 6))
REFUSALS = (Empty, Held, NoDeed, NoName, NoPiece, NoSort, NoThing, Ringed, Twice, Unlike)
# Of these three the last one can be put between the first two just one way about.
CROSS = [("a", (9, 1), ("size", 0, 5)), ("b", (1, 9), ("size", 1, 5)), ("c", (3, 9), ("size", 0, 2))]


def house_of(*sorts):
    """A house that was told these sorts."""
    house = House()
    for sort in sorts:
        house.tell(sort)
    return house


def state(house):
    """All that a house tells."""
    return house.lot().sorts(), house.row().holes(), house.pieces(), house.runs(), house.hung_anew()


class Plain:
    """What a house has, reckoned by keeping all of it ahead of each deed."""

    def __init__(self):
        self.now = {"sorts": [], "row": [], "pieces": {}, "used": [], "runs": {}, "anew": None}
        self.past = []

    def deed(self):
        self.past.append(copy.deepcopy(self.now))

    def tell(self, test, sort, row, anew):
        elder = self.now["row"]
        self.deed()
        test.assertEqual(sorted(row), sorted(elder + [(sort[1], sort[0])]))
        if put_in(Lot(self.now["sorts"]), Row(elder), sort)[0] == "row":
            test.assertEqual([pair for pair in row if pair[1] != sort[0]], elder)
            test.assertEqual(anew, 0)
        else:
            test.assertEqual(anew, len(elder))
        self.now["sorts"].append(sort)
        self.now.update(row=row, anew=anew)

    def drop(self, name):
        self.deed()
        self.now["sorts"] = [sort for sort in self.now["sorts"] if sort[0] != name]
        self.now["row"] = [pair for pair in self.now["row"] if pair[1] != name]

    def piece(self, number, name, thing):
        self.deed()
        self.now["pieces"][number] = (name, thing)
        self.now["used"].append(number)

    def wear(self, number, thing):
        self.deed()
        self.now["pieces"][number] = (self.now["pieces"][number][0], thing)

    def take(self, number):
        self.deed()
        del self.now["pieces"][number]

    def run(self, number):
        bin_name = Row(self.now["row"]).bin_of(self.now["pieces"][number][1])
        self.now["runs"][bin_name] = self.now["runs"].get(bin_name, 0) + 1
        return bin_name

    def back(self):
        self.now = self.past.pop()

    def sort_of(self, name):
        for sort in self.now["sorts"]:
            if sort[0] == name:
                return sort
        return None

    def good(self, name, thing):
        sort = self.sort_of(name)
        return fits(thing, sort[1]) and keeps(sort[2], thing)

    def pieces(self):
        return [
            (number, name, thing, self.good(name, thing)) for number, (name, thing) in sorted(self.now["pieces"].items())
        ]

    def state(self):
        return self.now["sorts"], self.now["row"], self.pieces(), self.now["runs"], self.now["anew"]


class Empties(unittest.TestCase):
    def test_at_first(self):
        house = House()
        self.assertEqual(state(house), ([], [], [], {}, None))
        self.assertEqual(house.lot(), Lot([]))
        self.assertEqual(house.row(), Row([]))
        self.assertIs(type(house.lot()), Lot)
        self.assertIs(type(house.row()), Row)
        refusal(self, NoDeed, {}, house.back)
        self.assertRaises(TypeError, House, 1)


class Tell(unittest.TestCase):
    def test_put_in(self):
        house = House()
        self.assertIsNone(house.tell(A))
        self.assertEqual(state(house), ([A], [((5,), "a")], [], {}, 0))
        house.tell(sort=B)
        house.tell(C)
        self.assertEqual(house.row(), Row([((5,), "a"), ((9,), "c"), ((20,), "b")]))
        self.assertEqual(house.lot(), Lot([A, B, C]))
        self.assertEqual(house.hung_anew(), 0)

    def test_hung_anew(self):
        row = house_of(*CROSS[:2]).row()
        other = house_of(*CROSS[1::-1]).row()
        found = []
        for sorts in (CROSS, [CROSS[1], CROSS[0], CROSS[2]]):
            house = house_of(*sorts)
            self.assertTrue(grades(house.row(), house.lot()))
            self.assertEqual([name for _, name in house.row().holes()], ["b", "c", "a"])
            elder = row if sorts is CROSS else other
            barred = put_in(Lot(sorts[:2]), elder, sorts[2])[0] == "barred"
            self.assertEqual(house.hung_anew(), 2 if barred else 0)
            found.append(barred)
        self.assertIn(True, found)

    def test_hung_anew_is_the_last_tells(self):
        # Whichever way about the first two stand, one of these can't be put in.
        turned = [("d", (9, 3), ("size", 1, 2))]
        for sorts in (CROSS, [CROSS[1], CROSS[0], CROSS[2]], CROSS[:2] + turned, CROSS[1::-1] + turned):
            house = house_of(*sorts)
            anew = house.hung_anew()
            house.tell(("e", (0, 0), ALL))
            self.assertEqual(house.hung_anew(), 0)
            house.drop("e")
            self.assertEqual(house.hung_anew(), 0)
            house.back()
            house.back()
            self.assertEqual(house.hung_anew(), anew)
            house.back()
            self.assertEqual(house.hung_anew(), 0)
            house.back()
            house.back()
            self.assertIsNone(house.hung_anew())

    def test_refused_as_a_lot(self):
        house = house_of(A, B)
        was = state(house)
        for sort, error, fields in (
            (None, NoSort, {"place": 2}), (["c", (9,), ("size", 0, 6)], NoSort, {"place": 2}),
            (("c", (9, 9), ALL), Unlike, {"place": 2}), (("c", (9,), ("size", 0, 10)), Empty, {"name": "c"}),
            (("a", (9,), ("size", 0, 6)), Twice, {"name": "a"}), (("a", (9,), ("any",)), Empty, {"name": "a"}),
            (("a", (9, 9), ("any",)), Unlike, {"place": 2}), (("a", (5,), ALL), Twice, {"name": "a"}),
            (("c", (G + 1,), ALL), NoSort, {"place": 2}),
        ):
            refusal(self, error, fields, house.tell, sort)
        for thing in anything():
            refusal(self, NoSort, {"place": 2}, house.tell, thing)
            refusal(self, NoSort, {"place": 0}, House().tell, thing)
        self.assertEqual(state(house), was)

    def test_a_thirteenth(self):
        sorts = [("abcdefghijklm"[at], (10 * at + 5,), ("size", 0, 10 * at)) for at in range(13)]
        for seed in range(3):
            random.Random(seed).shuffle(sorts)
            house = house_of(*sorts[:12])
            refusal(self, NoSort, {"place": -1}, house.tell, sorts[12])
            refusal(self, NoSort, {"place": -1}, house.tell, None)
            self.assertEqual(len(house.row()), 12)
            house.drop(sorts[3][0])
            house.tell(sorts[12])
            self.assertTrue(grades(house.row(), house.lot()))

    def test_ringed(self):
        house = house_of(A, B)
        was = state(house)
        refusal(self, Ringed, {}, house.tell, ("c", (9,), ("size", 0, 5)))
        refusal(self, Ringed, {}, house.tell, ("c", (9,), ALL))
        refusal(self, Twice, {"name": "b"}, house.tell, ("b", (9,), ALL))
        self.assertEqual(state(house), was)
        for many in range(3, 9):
            sorts = ring_sorts(many)
            house = house_of(*sorts[:-1])
            refusal(self, Ringed, {}, house.tell, sorts[-1])
            self.assertEqual(len(house.lot()), many - 1)
            house.drop("b")
            house.tell(sorts[-1])

    def test_what_is_told_is_kept_as_a_copy(self):
        class Text(str):
            pass

        house = house_of((Text("a"), (5,), ALL))
        self.assertTrue(is_plain(house.lot().sorts()) and is_plain(house.row().holes()))


    def test_pieces_are_kept_as_copies(self):
        class Text(str):
            pass

        class Number(int):
            pass

        class Thing(tuple):
            pass

        house = house_of(A, B)
        house.piece(Number(7), Text("b"), Thing((Number(20),)))
        self.assertTrue(is_plain(house.pieces()))
        house.run(Number(7))
        self.assertTrue(is_plain(house.runs()))
        house.wear(Number(7), Thing((Number(12),)))
        self.assertTrue(is_plain(house.pieces()))
        house.take(Number(7))
        house.back()
        self.assertTrue(is_plain(house.pieces()))
        house.back()
        self.assertTrue(is_plain(house.pieces()))
        self.assertEqual(house.pieces(), [(7, "b", (20,), True)])
        with self.assertRaises(Twice) as caught:
            house.piece(Number(7), "b", (20,))
        self.assertTrue(is_plain(caught.exception.name))


class Drop(unittest.TestCase):
    def test_drop(self):
        house = house_of(A, B, C)
        self.assertIsNone(house.drop("c"))
        self.assertEqual(house.lot(), Lot([A, B]))
        self.assertEqual(house.row(), Row([((5,), "a"), ((20,), "b")]))
        house.drop(name="a")
        self.assertEqual(state(house), ([B], [((20,), "b")], [], {}, 0))
        house.drop("b")
        self.assertEqual(house.lot(), Lot([]))
        house.tell(("a", (5, 5), ALL))
        self.assertEqual(house.lot().measures(), 2)

    def test_no_name(self):
        house = house_of(A, B)
        for name in [thing for thing in anything() if thing != "a"] + ["c", "A", ("a",), ["a"]]:
            refusal(self, NoName, {"name": name}, house.drop, name)
        refusal(self, NoName, {"name": "a"}, House().drop, "a")
        self.assertEqual(len(house.lot()), 2)

    def test_held(self):
        house = house_of(A, B)
        house.piece(1, "b", (20,))
        house.piece(2, "b", (15,))
        refusal(self, Held, {"name": "b"}, house.drop, "b")
        house.wear(1, (9,))
        house.take(2)
        refusal(self, Held, {"name": "b"}, house.drop, "b")
        refusal(self, NoName, {"name": "c"}, house.drop, "c")
        self.assertEqual(house.pieces(), [(1, "b", (9,), False)])
        house.drop("a")
        house.take(1)
        house.drop("b")
        self.assertEqual(len(house.lot()), 0)

    def test_a_name_again(self):
        house = house_of(A, B)
        house.drop("a")
        house.tell(("a", (30,), ("size", 0, 25)))
        self.assertEqual(house.row(), Row([((20,), "b"), ((30,), "a")]))
        self.assertEqual(house.lot().names(), ["b", "a"])


class Pieces(unittest.TestCase):
    def test_a_piece(self):
        house = house_of(A, B)
        self.assertIsNone(house.piece(9999, "a", (0,)))
        house.piece(number=1, name="b", thing=(10,))
        house.piece(50, "b", (20,))
        self.assertEqual(
            house.pieces(), [(1, "b", (10,), True), (50, "b", (20,), True), (9999, "a", (0,), True)]
        )
        self.assertTrue(is_plain(house.pieces()))

    def test_no_piece(self):
        house = house_of(A, B)
        wrong = [0, -1, 10000, G, True, False, "1", (1,), [1]] + [thing for thing in anything() if thing != 1]
        for number in wrong:
            refusal(self, NoPiece, {"number": number}, house.piece, number, "a", (5,))
        house.piece(1, "a", (5,))
        for number in wrong + [2, 9999]:
            refusal(self, NoPiece, {"number": number}, house.wear, number, (5,))
            refusal(self, NoPiece, {"number": number}, house.run, number)
            refusal(self, NoPiece, {"number": number}, house.take, number)
        self.assertEqual(state(house), ([A, B], [((5,), "a"), ((20,), "b")], [(1, "a", (5,), True)], {}, 0))

    def test_a_number_is_told_as_a_copy(self):
        house = House()
        for call in (lambda one: house.piece(one, "a", (5,)), lambda one: house.wear(one, (5,)), house.run, house.take):
            number = [[1]]
            with self.assertRaises(NoPiece) as caught:
                call(number)
            number[0].append(2)
            self.assertEqual(caught.exception.number, [[1]])

    def test_twice(self):
        house = house_of(A, B)
        house.piece(7, "a", (5,))
        refusal(self, Twice, {"name": 7}, house.piece, 7, "b", (20,))
        house.take(7)
        refusal(self, Twice, {"name": 7}, house.piece, 7, "b", (20,))
        refusal(self, NoPiece, {"number": 7}, house.take, 7)
        refusal(self, NoPiece, {"number": 7}, house.run, 7)
        refusal(self, NoPiece, {"number": 7}, house.wear, 7, (5,))
        house.back()
        refusal(self, Twice, {"name": 7}, house.piece, 7, "b", (20,))
        house.back()
        house.piece(7, "b", (20,))
        self.assertEqual(house.pieces(), [(7, "b", (20,), True)])

    def test_no_name_and_no_thing(self):
        house = house_of(A, B)
        for name in [thing for thing in anything() if thing != "a"] + ["c"]:
            refusal(self, NoName, {"name": name}, house.piece, 1, name, (5,))
        for thing in anything() + [(6,), (5, 5), (-1,), (True,), [5], ("5",), (G + 1,)]:
            refusal(self, NoThing, {}, house.piece, 1, "a", thing)
        refusal(self, NoThing, {}, house.piece, 1, "b", (9,))
        refusal(self, NoThing, {}, house.piece, 1, "b", (21,))
        self.assertEqual(house.pieces(), [])
        house.piece(1, "b", (10,))

    def test_order_of_the_refusals(self):
        house = house_of(A, B)
        house.piece(7, "a", (5,))
        refusal(self, NoPiece, {"number": 0}, house.piece, 0, "x", None)
        refusal(self, Twice, {"name": 7}, house.piece, 7, "x", None)
        refusal(self, NoName, {"name": "x"}, house.piece, 8, "x", None)
        refusal(self, NoThing, {}, house.piece, 8, "a", None)
        refusal(self, NoPiece, {"number": 8}, house.wear, 8, None)
        refusal(self, NoName, {"name": "a"}, House().piece, 1, "a", (5,))

    def test_wear(self):
        house = house_of(A, B)
        house.piece(1, "b", (20,))
        self.assertIs(house.wear(1, (20,)), True)
        self.assertIs(house.wear(1, (10,)), True)
        refusal(self, NoThing, {}, house.wear, 1, (11,))
        self.assertIs(house.wear(number=1, thing=(9,)), False)
        self.assertEqual(house.pieces(), [(1, "b", (9,), False)])
        self.assertIs(house.wear(1, (9,)), False)
        for thing in anything() + [(10,), (20,), (9, 9), (5, 5), (-1,), (True,), (False,), [3], ("3",)]:
            refusal(self, NoThing, {}, house.wear, 1, thing)
        self.assertIs(house.wear(1, (0,)), False)
        self.assertEqual(house.pieces(), [(1, "b", (0,), False)])
        self.assertTrue(is_plain(house.pieces()))

    def test_wear_in_several_measures(self):
        house = house_of(("a", (5, 9), ("worth", ("sum", (1, 1)), 10)))
        house.piece(3, "a", (4, 8))
        refusal(self, NoThing, {}, house.wear, 3, (5, 1))
        refusal(self, NoThing, {}, house.wear, 3, (1, 9))
        refusal(self, NoThing, {}, house.wear, 3, (4,))
        self.assertIs(house.wear(3, (2, 8)), True)
        self.assertIs(house.wear(3, (1, 8)), False)

    def test_run(self):
        house = house_of(A, B)
        house.piece(1, "a", (5,))
        house.piece(2, "b", (20,))
        self.assertEqual(house.run(1), "a")
        self.assertEqual(house.run(number=2), "b")
        house.run(2)
        self.assertEqual(house.runs(), {"a": 1, "b": 2})
        house.wear(2, (3,))
        self.assertEqual(house.run(2), "a")
        self.assertEqual(house.runs(), {"a": 2, "b": 2})
        self.assertTrue(is_plain(house.runs()))

    def test_a_piece_is_never_out(self):
        # Its own sort's hole stays while there is a piece of it, and takes it however worn it is.
        house = house_of(("a", (5, 5), ("worth", ("sum", (1, 1)), 8)), ("b", (9, 2), ("size", 0, 8)))
        house.piece(1, "b", (9, 2))
        house.wear(1, (6, 2))
        self.assertEqual(house.run(1), "b")
        house.tell(("c", (6, 9), ("size", 1, 7)))
        self.assertIn(house.run(1), ("b", "c"))
        house.wear(1, (0, 0))
        self.assertEqual(house.run(1), house.row().holes()[0][1])
        self.assertNotIn(None, house.runs())

    def test_told_lists_are_new_ones(self):
        house = house_of(A, B)
        house.piece(1, "a", (5,))
        house.run(1)
        was = state(house)
        house.pieces().clear()
        house.runs().clear()
        house.runs()["a"] = 9
        house.lot().sorts().clear()
        house.row().holes().clear()
        self.assertEqual(state(house), was)
        kept = house.runs(), house.pieces()
        house.run(1)
        house.take(1)
        self.assertEqual(kept, ({"a": 1}, [(1, "a", (5,), True)]))


class Back(unittest.TestCase):
    def test_each_deed(self):
        house = House()
        steps = [
            lambda: house.tell(A), lambda: house.tell(B), lambda: house.piece(1, "b", (20,)), lambda: house.wear(1, (15,)),
            lambda: house.wear(1, (3,)), lambda: house.piece(2, "a", (5,)), lambda: house.take(1), lambda: house.drop("b"),
            lambda: house.tell(C), lambda: house.take(2), lambda: house.drop("a"),
        ]
        states = []
        for step in steps:
            states.append(state(house))
            step()
        for was in reversed(states):
            self.assertIsNone(house.back())
            self.assertEqual(state(house), was)
        for _ in range(3):
            refusal(self, NoDeed, {}, house.back)
        self.assertEqual(house, House())

    def test_counts_are_taken_back(self):
        house = house_of(A, B)
        house.piece(1, "a", (5,))
        house.run(1)
        house.piece(2, "b", (20,))
        house.run(2)
        house.run(1)
        self.assertEqual(house.runs(), {"a": 2, "b": 1})
        house.back()
        self.assertEqual(house.runs(), {"a": 1})
        self.assertEqual(house.pieces(), [(1, "a", (5,), True)])
        house.back()
        self.assertEqual(house.runs(), {})
        self.assertEqual(house.pieces(), [])

    def test_run_is_no_deed(self):
        house = house_of(A)
        house.piece(1, "a", (5,))
        for _ in range(5):
            house.run(1)
        house.back()
        house.back()
        self.assertEqual(state(house), ([], [], [], {}, None))
        refusal(self, NoDeed, {}, house.back)

    def test_what_is_refused_is_no_deed(self):
        house = house_of(A)
        for call in (
            lambda: house.tell(None), lambda: house.tell(A), lambda: house.tell(("b", (9,), ALL)), lambda: house.drop("x"),
            lambda: house.piece(0, "a", (5,)), lambda: house.piece(1, "x", (5,)), lambda: house.piece(1, "a", (6,)),
            lambda: house.take(1), lambda: house.wear(1, (5,)), lambda: house.run(1),
        ):
            self.assertRaises(REFUSALS, call)
        house.back()
        self.assertEqual(house, House())
        refusal(self, NoDeed, {}, house.back)

    def test_numbers_are_free_again(self):
        house = house_of(A)
        house.piece(1, "a", (5,))
        house.take(1)
        house.back()
        self.assertEqual(house.pieces(), [(1, "a", (5,), True)])
        house.back()
        house.piece(1, "a", (4,))
        self.assertEqual(house.pieces(), [(1, "a", (4,), True)])

    def test_deeds_behind_a_back(self):
        house = house_of(A, B)
        house.back()
        house.tell(C)
        house.back()
        self.assertEqual(house, house_of(A))
        house.back()
        refusal(self, NoDeed, {}, house.back)


class Twins(unittest.TestCase):
    def test_each_goes_its_own_way(self):
        house = house_of(A, B)
        house.piece(1, "a", (5,))
        house.run(1)
        twin = house.twin()
        self.assertIs(type(twin), House)
        self.assertEqual(twin, house)
        self.assertEqual(state(twin), state(house))
        was = state(house)
        twin.run(1)
        twin.wear(1, (3,))
        twin.piece(2, "b", (20,))
        twin.take(1)
        twin.tell(C)
        self.assertEqual(state(house), was)
        other = house.twin()
        house.take(1)
        house.drop("a")
        self.assertEqual(state(other), was)
        self.assertFalse(other == house)

    def test_a_twin_can_take_back(self):
        house = house_of(A, B)
        house.piece(1, "a", (5,))
        house.take(1)
        twin = house.twin()
        for _ in range(4):
            twin.back()
        self.assertEqual(twin, House())
        self.assertEqual(twin.hung_anew(), None)
        refusal(self, NoDeed, {}, twin.back)
        refusal(self, Twice, {"name": 1}, house.piece, 1, "a", (5,))
        house.back()
        self.assertEqual(house.pieces(), [(1, "a", (5,), True)])
        twin = house.twin()
        house.back()
        refusal(self, Twice, {"name": 1}, twin.piece, 1, "a", (5,))
        house.piece(1, "b", (20,))

    def test_equal(self):
        house = house_of(A, B)
        self.assertEqual(house, house_of(A, B))
        self.assertFalse(house == house_of(B, A))
        self.assertFalse(house == house_of(A))
        self.assertFalse(house == House())
        self.assertTrue(House() == House())
        for name, thing in (("a", (5,)), ("b", (20,))):
            other = house_of(A, B)
            other.piece(1, name, thing)
            self.assertFalse(house == other)
            twin = other.twin()
            twin.run(1)
            self.assertFalse(twin == other)
            other.take(1)
            # What was done, and which numbers are used, doesn't count.
            self.assertTrue(house == other)
        one, other = house_of(A, B), house_of(A, B)
        one.piece(1, "a", (5,))
        other.piece(1, "a", (4,))
        self.assertFalse(one == other)
        one.wear(1, (4,))
        self.assertTrue(one == other)
        other.piece(2, "a", (4,))
        self.assertFalse(one == other)

    def test_rows_count(self):
        found = []
        for first in (CROSS[:2], CROSS[1::-1]):
            one, other = house_of(*first), house_of(*first, CROSS[2])
            other.drop("c")
            self.assertEqual(one.lot(), other.lot())
            self.assertIs(one == other, one.row() == other.row())
            found.append(one == other)
        self.assertIn(False, found)

    def test_other_kinds(self):
        for thing in anything() + [Row([]), Lot([])]:
            self.assertFalse(House() == thing)
            self.assertFalse(thing == House())


class Chance(unittest.TestCase):
    NAMES = ["a", "b", "c", "d", "e", "out"]

    def deed(self, chance, house, plain, measures):
        """One deed by chance, tried of both; the word and what came of it."""
        word = chance.choice(["tell"] * 3 + ["drop", "piece", "piece", "wear", "wear", "run", "run", "take", "back"])
        number = chance.randint(0, 12)
        name = chance.choice(self.NAMES)
        thing = some_thing(chance, measures, 9)
        now = plain.now
        if word == "tell":
            return word, self.tell(house, plain, some_sort(chance, name, measures, 9))
        if word == "drop":
            error = NoName if plain.sort_of(name) is None else None
            held = any(kept[0] == name for kept in now["pieces"].values())
            return word, self.both(error or (Held if held else None), house.drop, plain.drop, name)
        if word == "piece":
            error = NoPiece if number == 0 else Twice if number in now["used"] else None
            sort = plain.sort_of(name)
            if sort is not None and chance.random() < 0.7:
                thing = sort[1]
            error = error or (NoName if sort is None else None if plain.good(name, thing) else NoThing)
            return word, self.both(error, house.piece, plain.piece, number, name, thing)
        error = None if number in now["pieces"] else NoPiece
        if word == "wear":
            if error is None and chance.random() < 0.7:
                present = now["pieces"][number][1]
                thing = tuple(max(0, part - chance.choice((0, 0, 1, 3))) for part in present)
            error = error or (None if fits(thing, now["pieces"][number][1]) else NoThing)
            found = self.both(error, house.wear, plain.wear, number, thing)
            if error is None:
                self.assertIs(found, plain.good(*now["pieces"][number]))
            return word, error
        if word == "run":
            if error is None:
                good = plain.good(*now["pieces"][number])
                bin_name = house.run(number)
                self.assertEqual(bin_name, plain.run(number))
                self.assertTrue(not good or bin_name == now["pieces"][number][0])
            else:
                self.assertRaises(NoPiece, house.run, number)
            return word, error
        if word == "take":
            return word, self.both(error, house.take, plain.take, number)
        return word, self.both(None if plain.past else NoDeed, house.back, plain.back)

    def both(self, error, call, plain, *args):
        if error is None:
            found = call(*args)
            plain(*args)
            return found
        with self.assertRaises(error) as caught:
            call(*args)
        self.assertIs(type(caught.exception), error)
        return error

    def tell(self, house, plain, sort):
        sorts = plain.now["sorts"]
        if plain.sort_of(sort[0]) is not None:
            return self.both(Twice, house.tell, None, sort)
        if graded(Lot(sorts + [sort]))[0] == "ring":
            return self.both(Ringed, house.tell, None, sort)
        house.tell(sort)
        plain.tell(self, sort, house.row().holes(), house.hung_anew())
        return None

    def test_deeds_against_a_plain_reckoning(self):
        found = {}
        for seed in range(40):
            chance = random.Random(seed)
            house, plain, measures = House(), Plain(), 1 + seed % 3
            twins = []
            for _ in range(120):
                word, came = self.deed(chance, house, plain, measures)
                found[word, came] = found.get((word, came), 0) + 1
                self.assertEqual(state(house), plain.state())
                self.assertTrue(grades(house.row(), house.lot()))
                self.assertEqual(
                    sorted(house.row().holes()), sorted((sort[1], sort[0]) for sort in house.lot().sorts())
                )
                if chance.random() < 0.05:
                    twins.append((house.twin(), copy.deepcopy(plain)))
                if twins and chance.random() < 0.1:
                    self.assertEqual(state(twins[0][0]), twins[0][1].state())
                    self.deed(chance, twins[0][0], twins[0][1], measures)
            for one, other in [(house, plain), *twins]:
                while other.past:
                    one.back()
                    other.back()
                    self.assertEqual(state(one), other.state())
                refusal(self, NoDeed, {}, one.back)
                self.assertEqual(one, House())
        for known in (
            ("tell", None), ("tell", Ringed), ("tell", Twice), ("drop", None), ("drop", NoName), ("drop", Held),
            ("piece", None), ("piece", NoPiece), ("piece", Twice), ("piece", NoName), ("piece", NoThing), ("wear", None),
            ("wear", NoPiece), ("wear", NoThing), ("run", None), ("run", NoPiece), ("take", None), ("take", NoPiece),
            ("back", None),
        ):
            self.assertGreater(found.get(known, 0), 5, known)

    def test_the_same_deeds_make_equal_rows(self):
        for seed in range(40):
            chance = random.Random(seed)
            houses = [House(), House()]
            for _ in range(30):
                sort = some_sort(chance, chance.choice("abcdefgh"), 1 + seed % 4, 9)
                word = chance.choice(("tell", "tell", "tell", "drop", "back"))
                for house in houses:
                    try:
                        if word == "tell":
                            house.tell(sort)
                        elif word == "drop":
                            house.drop(sort[0])
                        else:
                            house.back()
                    except REFUSALS:
                        pass
                self.assertEqual(houses[0].row(), houses[1].row())
                self.assertEqual(houses[0], houses[1])
                self.assertEqual(houses[0].hung_anew(), houses[1].hung_anew())

    def test_sorts_with_few_arrows(self):
        # Here sorts often must be hung anew.
        found = {0: 0, 1: 0}
        for seed in range(150):
            chance = random.Random(seed)
            house, plain = House(), Plain()
            names = list("abcdef")
            chance.shuffle(names)
            for at, name in enumerate(names):
                greatest = tuple(2 if place == at or chance.random() < 0.25 else 1 for place in range(6))
                self.tell(house, plain, (name, greatest, ("size", at, 2)))
                found[min(1, house.hung_anew() or 0)] += 1
                self.assertEqual(state(house), plain.state())
        self.assertGreater(min(found.values()), 10)

    def test_many_deeds(self):
        house = house_of(A, B)
        for number in range(1, 2001):
            house.piece(number, "ab"[number % 2], ((20,) if number % 2 else (5,)))
            house.run(number)
        self.assertEqual(house.runs(), {"a": 1000, "b": 1000})
        twin = house.twin()
        for number in range(2000):
            house.back()
        self.assertEqual(house, house_of(A, B))
        self.assertEqual(len(twin.pieces()), 2000)
        self.assertTrue(all(is_thing(piece[2]) and piece[3] is True for piece in twin.pieces()))
