"""[33] the desk."""

import random
import unittest

from gapgrades.desk import Desk
from gapgrades.errors import (
    Empty, Held, NoAsk, NoDeed, NoName, NoPiece, NoSort, NoThing, Ringed, Twice, Unlike,
)
from gapgrades.house import House
from gapgrades.lots import Lot
from gapgrades.readers import read_lot, read_row
from gapgrades.rows import Row
from gapgrades.slacks import slack
from gapgrades.spreads import spread
from gapgrades.texts import show_lot
from support import anything, refusal, some_sort, some_thing

G = 10 ** 9
REFUSALS = (Empty, Held, NoAsk, NoDeed, NoName, NoPiece, NoSort, NoThing, Ringed, Twice, Unlike)
A = "sort a 5 while all end"
B = "sort b 20 while size 0 10"
ASKED = ("row", "lot", "pieces", "runs", "slack")


def desk_of(*rows):
    """A desk that was told these rows."""
    desk = Desk()
    for row in rows:
        desk.say(row)
    return desk


def state(desk):
    """What a desk answers of all it has."""
    return [desk.say(row) for row in ASKED]


def x(thing):
    """A thing as it is written."""
    return "x".join(str(part) for part in thing)


class Answers(unittest.TestCase):
    def told(self, desk, *pairs):
        for row, answer in pairs:
            found = desk.say(row)
            self.assertEqual(found, answer, row)
            self.assertIs(type(found), str)

    def test_at_first(self):
        self.told(
            Desk(), ("row", "none"), ("lot", "none"), ("pieces", "none"), ("runs", "none"), ("slack", "none"),
            ("where 5", "out"), ("where 5x6x7", "out"), (f"where {G}", "out"),
        )
        self.assertEqual(Desk().say(row="row"), "none")

    def test_sorts(self):
        self.told(
            Desk(), (A, "ok"), ("row", "5 to a"), (B, "ok"), ("row", "5 to a; 20 to b"), ("lot", f"{A}; {B}"),
            ("sort c 9 while worth sum 2 at 12", "ok"), ("row", "5 to a; 9 to c; 20 to b"), ("drop c", "ok"),
            ("row", "5 to a; 20 to b"), ("back", "ok"), ("row", "5 to a; 9 to c; 20 to b"), ("drop a", "ok"),
            ("drop b", "ok"), ("drop c", "ok"), ("row", "none"), ("lot", "none"), ("sort a 5x6 while any all end end", "ok"),
            ("lot", "sort a 5x6 while any all end end"),
        )

    def test_pieces(self):
        self.told(
            desk_of(A, B), ("piece 17 b 20", "ok"), ("pieces", "17 b 20 good"), ("piece 2 a 0", "ok"),
            ("pieces", "2 a 0 good; 17 b 20 good"), ("run 17", "b"), ("wear 17 10", "good"), ("wear 17 9", "spent"),
            ("pieces", "2 a 0 good; 17 b 9 spent"), ("run 17", "b"), ("wear 17 5", "spent"), ("run 17", "a"), ("run 2", "a"),
            ("runs", "a 2; b 2"), ("take 2", "ok"), ("pieces", "17 b 5 spent"), ("runs", "a 2; b 2"), ("back", "ok"),
            ("back", "ok"), ("runs", "b 2"), ("pieces", "2 a 0 good; 17 b 9 spent"),
        )

    def test_runs_rise_by_bins(self):
        desk = desk_of("sort zz 5 while all end", "sort out 20 while size 0 10", "sort b 30 while size 0 25")
        self.told(
            desk, ("piece 1 zz 5", "ok"), ("piece 2 out 20", "ok"), ("piece 3 b 30", "ok"), ("run 1", "zz"), ("run 2", "out"),
            ("run 3", "b"), ("run 2", "out"), ("runs", "b 1; out 2; zz 1"),
        )
        # No deeds lead there, since a piece's own hole takes it: the counts are set by hand.
        desk.house.counts[None] = 4
        self.told(desk, ("runs", "b 1; out 2; zz 1; out 4"))
        desk.house.counts.clear()
        desk.house.counts[None] = 1
        self.told(desk, ("runs", "out 1"))

    def test_where(self):
        desk = desk_of(A, B)
        self.told(desk, ("where 0", "0"), ("where 5", "0"), ("where 6", "1"), ("where 20", "1"), ("where 21", "out"))
        self.told(desk, (f"where {G}", "out"))
        self.told(desk_of("sort a 5x6 while all end"), ("where 5x6", "0"), ("where 6x5", "out"))

    def test_arrow(self):
        desk = desk_of(A, B)
        self.told(desk, ("arrow a b", "5"), ("arrow b a", "none"), ("arrow a a", "5"), ("arrow b b", "20"))
        desk = desk_of("sort a 5x6 while all end", "sort b 9x3 while size 0 6")
        self.told(desk, ("arrow a b", "5x3"), ("arrow b a", "none"))

    def test_spread(self):
        desk = desk_of(A, B)
        self.told(desk, ("spread a", "0 5"), ("spread b", "1 20"))
        # The row of a house grades, so no sort of it is spread; one that does is put in by hand.
        desk.house.row_kept = Row([((3,), "a"), ((4,), "b")])
        self.told(desk, ("spread a", "0 3; 1 4; out 5"), ("spread b", "out 20"))
        desk.house.row_kept = Row([((30,), "b")])
        self.told(desk, ("spread b", "0 20"))

    def test_slack(self):
        desk = desk_of(A, B)
        self.told(desk, ("slack", "0"))
        desk.house.row_kept = Row([((7,), "a"), ((30,), "b")])
        self.told(desk, ("slack", "2"))
        self.told(Desk(), ("slack", "none"))

    def test_asks(self):
        desk = desk_of(A, B, "piece 1 a 5", "run 1")
        was = state(desk)
        self.told(
            desk, ("asks sort c 9 while size 0 6", "ok"), ("asks sort c 9 while size 0 5", "ring"),
            ("asks sort c 3 while all end", "ring"), ("asks sort c 9 while size 0 6", "ok"),
        )
        self.assertEqual(state(desk), was)
        for row, error, fields in (
            ("asks sort a 9 while size 0 6", Twice, {"name": "a"}), ("asks sort c 9x9 while all end", Unlike, {"place": 2}),
            ("asks sort c 9 while any end", Empty, {"name": "c"}), ("asks sort c 9 while size 1 0", NoSort, {"place": 2}),
        ):
            refusal(self, error, fields, desk.say, row)
        self.assertEqual(state(desk), was)
        desk.say("back")
        self.assertEqual(desk.say("pieces"), "none")
        self.told(Desk(), ("asks sort c 9 while all end", "ok"))

    def test_asks_where_all_would_be_hung_anew(self):
        rows = ["sort a 9x1 while size 0 5", "sort b 1x9 while size 1 5"]
        found = []
        for first in (rows, rows[::-1]):
            desk = desk_of(*first)
            was = desk.say("row")
            self.told(desk, ("asks sort c 3x9 while size 0 2", "ok"), ("row", was), ("sort c 3x9 while size 0 2", "ok"))
            self.told(desk, ("row", "1x9 to b; 3x9 to c; 9x1 to a"))
            found.append(was)
        self.assertEqual(len(set(found)), 2)


class Refused(unittest.TestCase):
    def test_by_the_house(self):
        desk = desk_of(A, B, "piece 1 b 20", "piece 2 a 5", "take 2")
        was = state(desk)
        for row, error, fields in (
            (A, Twice, {"name": "a"}), ("sort c 9x9 while all end", Unlike, {"place": 2}),
            ("sort c 9 while size 0 10", Empty, {"name": "c"}), ("sort c 9 while all end", Ringed, {}),
            ("sort c 1000000001 while all end", NoSort, {"place": 2}), ("drop c", NoName, {"name": "c"}),
            ("drop b", Held, {"name": "b"}), ("piece 0 a 5", NoPiece, {"number": 0}),
            ("piece 10000 a 5", NoPiece, {"number": 10000}), ("piece 1 a 5", Twice, {"name": 1}),
            ("piece 2 a 5", Twice, {"name": 2}), ("piece 3 c 5", NoName, {"name": "c"}), ("piece 3 a 6", NoThing, {}),
            ("piece 3 a 5x5", NoThing, {}), ("piece 3 b 9", NoThing, {}), ("take 2", NoPiece, {"number": 2}),
            ("take 0", NoPiece, {"number": 0}), ("wear 3 5", NoPiece, {"number": 3}), ("wear 1 21", NoThing, {}),
            ("wear 1 5x5", NoThing, {}), ("run 2", NoPiece, {"number": 2}), ("run 99999", NoPiece, {"number": 99999}),
            ("where 5x5", NoThing, {}), ("where 1000000001", NoThing, {}), ("arrow a c", NoName, {"name": "c"}),
            ("arrow c a", NoName, {"name": "c"}), ("arrow d c", NoName, {"name": "d"}), ("spread c", NoName, {"name": "c"}),
            ("asks sort a 5 while all end", Twice, {"name": "a"}),
        ):
            refusal(self, error, fields, desk.say, row)
        self.assertEqual(state(desk), was)
        refusal(self, NoDeed, {}, Desk().say, "back")
        refusal(self, NoThing, {}, Desk().say, "where 1000000001")
        refusal(self, NoSort, {"place": 0}, Desk().say, "sort a 5 while size 1 0")
        refusal(self, NoName, {"name": "a"}, Desk().say, "spread a")
        rows = [f"sort {'abcdefghijkl'[at]} {10 * at + 5} while size 0 {10 * at}" for at in range(12)]
        refusal(self, NoSort, {"place": -1}, desk_of(*rows).say, "sort z 900 while size 0 800")
        refusal(self, NoSort, {"place": -1}, desk_of(*rows).say, "asks sort z 900 while size 0 800")

    def test_numbers_of_eighty_figures(self):
        desk = desk_of(A, B, "piece 1 a 5")
        great, beyond = "9" * 80, "9" * 81
        for row, error, fields in (
            ("take {}", NoPiece, {"number": int(great)}), ("run {}", NoPiece, {"number": int(great)}),
            ("wear {} 5", NoPiece, {"number": int(great)}), ("wear 1 {}", NoThing, {}), ("wear 1 3x{}", NoThing, {}),
            ("piece {} a 5", NoPiece, {"number": int(great)}), ("piece 3 a {}", NoThing, {}), ("where {}", NoThing, {}),
            ("where 3x{}x4", NoThing, {}), ("sort c {} while all end", NoSort, {"place": 2}),
            ("sort c 9 while size 0 {}", NoSort, {"place": 2}), ("sort c 9 while size {} 0", NoSort, {"place": 2}),
            ("sort c 9 while worth low at {}", NoSort, {"place": 2}), ("sort c 9 while worth sum {} at 1", NoSort, {"place": 2}),
            ("sort c 9 while worth sum 1 {} at 1", NoSort, {"place": 2}), ("asks sort c {} while all end", NoSort, {"place": 2}),
        ):
            refusal(self, error, fields, desk.say, row.replace("{}", great))
            for word in (beyond, "9" * 5000, "0" + great, "0" * 80, "00", "01", "-1", "+1", "1_0", "1.0", "\u0665", "\u00b2", "", "q"):
                bad = row.replace("{}", word)
                refusal(self, NoAsk, {"asked": bad}, desk.say, bad)

    def test_bounds_aside(self):
        desk = desk_of("sort a 5x6 while all end")
        for rule in (
            "size 2 0", "size 8 0", "size 0 1000000001", "worth sum 1 at 0", "worth sum 1 2 3 at 0", "worth sum 1001 1 at 0",
            "worth low at 1" + "0" * 74 + "1", "worth sum " + "1 " * 300 + "at 0",
            "all all all worth add low add low add low sum 1 at 0 end end end",
        ):
            refusal(self, NoSort, {"place": 1}, desk.say, f"sort b 5x6 while {rule}")
            refusal(self, NoSort, {"place": 1}, desk.say, f"asks sort b 5x6 while {rule}")
        refusal(self, NoSort, {"place": 1}, desk.say, "sort b 1x2x1000000001 while all end")
        refusal(self, Unlike, {"place": 1}, desk.say, "sort b 1x2x3x4x5x6x7x8 while all end")

    def test_rules_that_are_none(self):
        desk = desk_of(A)
        for rule in (
            "all", "end", "all end end", "all all all all all end end end end end", "all all all all size 0 0 end end end end",
            "all " * 5000 + "end " * 4999 + "end", "all " * 5000 + "end", "any all end all end all end all end all end end",
            "size 0", "size 0 0 0", "size a 0", "worth low", "worth low at", "worth low at 1 2", "worth at 1", "worth sum at 1",
            "worth add low at 1", "worth add low low low at 1", "worth add low add low add low add low low at 0",
            "worth " + "add low " * 5000 + "low at 0", "worth " + "add " * 5000 + "low at 0", "low at 1", "sum 1 at 0",
            "worth sum 1x2 at 0", "worth times 1 at 0", "All end", "all  end", " all end", "all end ", "all\nend", "all end\n",
            "all end; ", "size 0x1 0", "worth low at 1x1",
        ):
            for head in ("sort b 9 while ", "asks sort b 9 while "):
                refusal(self, NoAsk, {"asked": head + rule}, desk.say, head + rule)
        self.assertEqual(desk.say("asks sort b 9 while all all all size 0 6 end end end"), "ok")
        self.assertEqual(desk.say("asks sort b 9 while all size 0 6 size 0 7 size 0 8 size 0 9 end"), "ok")
        self.assertEqual(desk.say("asks sort b 9 while worth add low add low add low low at 36"), "ok")
        self.assertEqual(desk.say("asks sort b 9 while all all all worth add low add low add low low at 36 end end end"), "ok")

    def test_no_rows(self):
        desk = desk_of(A, B, "piece 1 a 5")
        was = state(desk)
        for row in (
            "", " ", "\n", "x", "Row", "row ", " row", "row row", "row\n", "rows", "lot 1", "pieces 1", "runs a", "slack 0",
            "back 1", "back\n", "drop", "drop A", "drop a b", "drop  a", "drop 1", "drop abcdefghi", "drop a ", "take", "take a",
            "take 1 2", "take 1x2", "piece", "piece 1", "piece 2 a", "piece 2 a 5 5", "piece a 2 5", "piece 2 5 a", "piece 2x2 a 5",
            "piece 2 A 5", "piece 2 a 5x", "piece 2 a x5", "piece 2 a 1x1x1x1x1x1x1x1x1", "wear", "wear 1", "wear 1 5 5",
            "wear 5x5 1", "wear a 5", "wear 1 a", "run", "run a", "run 1 1", "run 1x1", "where", "where a", "where 5 5", "where 5,5",
            "where 1x1x1x1x1x1x1x1x1", "arrow", "arrow a", "arrow a b a", "arrow a B", "arrow A b", "arrow a  b", "spread",
            "spread a b", "spread A", "asks", "asks a", "asks row", "asks asks " + B, "asks  " + A, "asks sort",
            "sort", "sort c", "sort c 9", "sort c 9 while", "sort c 9 all end", "sort c 9 While all end", "sort C 9 while all end",
            "sort 9 c while all end", "sort c 9x while all end", "sort c 1x1x1x1x1x1x1x1x1 while all end", "sort  c 9 while all end",
            "sort c 9 while all end ", "sort c 9 while all end\n" + B, A + "; " + B, "5 to a", "none", "ok", "tell", "twin", "name",
            "number", "thing", "sort abcdefghi 9 while all end",
        ):
            refusal(self, NoAsk, {"asked": row}, desk.say, row)
        self.assertEqual(state(desk), was)

    def test_of_anything(self):
        desk = desk_of(A)
        for thing in anything() + [("row",), ["row"], {"row": 1}, [[A]], b"row"]:
            refusal(self, NoAsk, {"asked": thing}, desk.say, thing)
        for thing in (Row([]), Lot([])):
            with self.assertRaises(NoAsk):
                desk.say(thing)

    def test_what_was_asked_is_told_as_a_copy(self):
        row = [["row"]]
        with self.assertRaises(NoAsk) as caught:
            Desk().say(row)
        row[0].append("x")
        self.assertEqual(caught.exception.asked, [["row"]])


class Chance(unittest.TestCase):
    def row_by_chance(self, chance, measures):
        """A row of text, and what it asks of a house: a function of it."""
        name, other = chance.choice("abcde"), chance.choice("abcde")
        number, thing = chance.randint(0, 4), some_thing(chance, measures, 9)
        sort = some_sort(chance, name, measures, 9)
        line = show_lot(Lot([sort]))

        def where(house):
            place = house.row().place_of(thing)
            return "out" if place is None else str(place)

        def arrow(house):
            found = [house.lot().sort_of(name), house.lot().sort_of(other)]
            low = tuple(min(pair) for pair in zip(found[0][1], found[1][1]))
            return x(low) if house.lot().has(name, low) else "none"

        def spreads(house):
            return "; ".join(
                f"{'out' if place is None else place} {x(one)}" for place, one in spread(house.row(), house.lot(), name)
            )

        def asks(house):
            try:
                house.twin().tell(sort)
            except Ringed:
                return "ring"
            return "ok"

        return chance.choice([
            (line, lambda house: house.tell(sort) or "ok"), (line, lambda house: house.tell(sort) or "ok"),
            ("asks " + line, asks), (f"drop {name}", lambda house: house.drop(name) or "ok"),
            (f"piece {number} {name} {x(sort[1])}", lambda house: house.piece(number, name, sort[1]) or "ok"),
            (f"piece {number} {name} {x(thing)}", lambda house: house.piece(number, name, thing) or "ok"),
            (f"take {number}", lambda house: house.take(number) or "ok"), ("back", lambda house: house.back() or "ok"),
            (f"wear {number} {x(thing)}", lambda house: "good" if house.wear(number, thing) else "spent"),
            (f"run {number}", lambda house: house.run(number) or "out"), (f"where {x(thing)}", where),
            (f"arrow {name} {other}", arrow), (f"spread {name}", spreads),
            ("slack", lambda house: str(slack(house.row(), house.lot())).replace("None", "none")),
        ])

    def answer(self, call):
        """What is answered, or what it is refused with."""
        try:
            return call()
        except REFUSALS as error:
            return type(error), vars(error)

    def test_a_desk_answers_as_a_house_does(self):
        found = {}
        for seed in range(60):
            chance = random.Random(seed)
            desk, other, house, measures = Desk(), Desk(), House(), 1 + seed % 3
            for _ in range(100):
                row, call = self.row_by_chance(chance, measures)
                told = self.answer(lambda: desk.say(row))
                self.assertEqual(told, self.answer(lambda: call(house)), row)
                self.assertEqual(self.answer(lambda: other.say(row)), told)
                key = row.split(" ")[0], isinstance(told, str)
                found[key] = found.get(key, 0) + 1
                self.check(desk, house)
                self.assertEqual(state(desk), state(other))
        self.assertGreater(len(found), 20)

    def check(self, desk, house):
        row, lot = desk.say("row"), desk.say("lot")
        self.assertEqual(read_row("" if row == "none" else row.replace("; ", "\n")), house.row())
        self.assertEqual(read_lot("" if lot == "none" else lot.replace("; ", "\n")), house.lot())
        pieces = [f"{number} {name} {x(thing)} {'good' if good else 'spent'}" for number, name, thing, good in house.pieces()]
        self.assertEqual(desk.say("pieces"), "; ".join(pieces) or "none")
        runs = [f"{name} {many}" for name, many in sorted(house.runs().items())]
        self.assertEqual(desk.say("runs"), "; ".join(runs) or "none")
