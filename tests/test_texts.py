"""[30] texts of rows and lots, written and read."""

import random
import re
import unittest

from gapgrades.errors import NoText
from gapgrades.grading import graded
from gapgrades.lots import Lot
from gapgrades.readers import read_lot, read_row
from gapgrades.rows import Row
from gapgrades.rules import is_rule, keeps
from gapgrades.texts import show_lot, show_row
from gapgrades.things import is_hole, is_thing
from support import anything, is_plain, refusal, some_lot, some_row, some_thing

G = 10 ** 9
ALL = ("all",)
NAMES = ["a", "zz", "while", "to", "sort", "at", "end", "x", "all", "size", "out", "abcdefgh"]

# The words by a pattern, apart from how the program reads them.
NUMBER = "(?:0|[1-9][0-9]*)"
MEASURES = f"{NUMBER}(?:x{NUMBER}){{0,7}}"
NAME = "[a-z]{1,8}"
SCALE = ALONE = f"(?:times|low|high|sum(?: {NUMBER})+)"
for _ in range(3):
    SCALE = f"(?:{ALONE}|(?:add|lesser|greater) {SCALE} {SCALE})"
PLAIN = f"(?:size {NUMBER} {NUMBER}|worth {SCALE} at {NUMBER})"
RULE = f"(?:{PLAIN}|(?:all|any) end)"
for _ in range(3):
    RULE = f"(?:{PLAIN}|(?:all|any)(?: {RULE}){{0,4}} end)"
HOLE_LINE = re.compile(f"({MEASURES}) to ({NAME})")
SORT_LINE = re.compile(f"sort ({NAME}) ({MEASURES}) while ({RULE})")


def measures_of(word):
    """The measures of a word of the pattern; what is beyond all bounds as -1."""
    return tuple(int(part) if len(part) < 90 else -1 for part in word.split("x"))


def tree_of(words):
    """The scale or the rule that the words, taken off from the front, write."""
    word = words.pop(0)
    if word in ("times", "low", "high"):
        return (word,)
    if word == "sum":
        weights = []
        while words and words[0].isdigit():
            weights.append(int(words.pop(0)))
        return word, tuple(weights)
    if word in ("add", "lesser", "greater"):
        return word, tree_of(words), tree_of(words)
    if word == "size":
        return word, int(words.pop(0)), int(words.pop(0))
    if word == "worth":
        scale = tree_of(words)
        words.pop(0)
        return word, scale, int(words.pop(0))
    parts = []
    while words[0] != "end":
        parts.append(tree_of(words))
    words.pop(0)
    return (word, *parts)


def pair_in(line):
    """The tuple (hole, bin) of a line, or None."""
    found = HOLE_LINE.fullmatch(line)
    hole = found and measures_of(found[1])
    return (hole, found[2]) if found and is_hole(hole) else None


def sort_in(line):
    """The sort of a line, or None."""
    found = SORT_LINE.fullmatch(line)
    if not found or any(len(word) > 90 for word in line.split(" ")):
        return None
    greatest, rule = measures_of(found[2]), tree_of(found[3].split(" "))
    right = is_thing(greatest) and is_rule(rule, len(greatest)) and keeps(rule, greatest)
    return (found[1], greatest, rule) if right else None


def told_of(lines, read):
    """What the lines say, or the number of the first one that says nothing."""
    for number, line in enumerate(lines):
        if read(line) is None:
            return number
    return [read(line) for line in lines]


def deep_scale(chance, many, within):
    """A scale of just so many within one another."""
    if within == 1:
        return chance.choice([("times",), ("low",), ("high",), ("sum", tuple(chance.choice((0, 1, 30, 1000)) for _ in range(many)))])
    parts = [deep_scale(chance, many, within - 1), deep_scale(chance, many, chance.randint(1, within - 1))]
    chance.shuffle(parts)
    return (chance.choice(("add", "lesser", "greater")), *parts)


def deep_rule(chance, many, within):
    """A rule of just so many within one another, that keeps the thing of all measures 1."""
    if within == 1:
        return chance.choice([
            ("size", chance.randrange(many), chance.randint(0, 1)), ALL,
            ("worth", deep_scale(chance, many, chance.randint(1, 4)), 0),
        ])
    parts = [deep_rule(chance, many, within - 1)]
    parts += [deep_rule(chance, many, chance.randint(1, within - 1)) for _ in range(chance.randint(0, 3))]
    chance.shuffle(parts)
    return (chance.choice(("all", "any")), *parts)


def edits(text, signs):
    """The text with one sign more, fewer or otherwise."""
    for at in range(len(text) + 1):
        for sign in signs:
            yield text[:at] + sign + text[at:]
            yield text[:at] + sign + text[at + 1:]
        yield text[:at] + text[at + 1:]


class Rows(unittest.TestCase):
    def check(self, row, text=None):
        told = show_row(row)
        if text is not None:
            self.assertEqual(told, text)
        self.assertEqual(show_row(row=row), told)
        self.assertEqual(str(row), told)
        self.assertIs(type(told), str)
        self.assertEqual(read_row(told), row)
        self.assertEqual(read_row(text=told), row)
        self.assertIs(type(read_row(told)), Row)
        self.assertTrue(is_plain(read_row(told).holes()))

    def test_written(self):
        self.check(Row([]), "")
        self.check(Row([((7,), "a")]), "7 to a")
        self.check(Row([((3, 4, 5), "cap"), ((0, 4 * G, 10), "to")]), "3x4x5 to cap\n0x4000000000x10 to to")

    def test_none_to_sixty_holes(self):
        for many in range(61):
            self.check(some_row(many, 1 + many % 8, many, names=NAMES, most=4 * G))

    def test_no_lines_of_any_row(self):
        for line in (
            " ", "5", "5 to", "to a", "5 a", "5 to a ", " 5 to a", "5  to a", "5 to  a", "5 To a", "5 to A", "5 to a b", "5 to",
            "5 to abcdefghi", "5 to a1", "05 to a", "00 to a", "x5 to a", "5x to a", "5xx5 to a", "5X5 to a", "-5 to a",
            "+5 to a", "5.0 to a", "4000000001 to a", "9x4000000001 to a", "1x1x1x1x1x1x1x1x1 to a", "5 to a\t", "\t5 to a",
            "5 x 5 to a", "5_0 to a", "sort a 5 while all end", "5 to a; 6 to b", "5 to\ta", "(5,) to a", "1" * 80 + " to a",
            "1" * 81 + " to a", "1" * 5000 + " to a", "0" * 5000 + " to a", "5 to " + "a" * 5000, "5x" * 5000 + "5 to a",
            "\u0665 to a", "5 to \u00e4", "5 to a\r", "5\u00a0to a", "\u00b2 to a",
        ):
            refusal(self, NoText, {"line": 0}, read_row, line)
            refusal(self, NoText, {"line": 1}, read_row, "5 to a\n" + line)
            refusal(self, NoText, {"line": 1}, read_row, "5 to a\n" + line + "\n6 to b")
            refusal(self, NoText, {"line": 0}, read_row, line + "\n5 to a\n" + line)

    def test_line_feeds(self):
        for text, line in (
            ("\n", 0), ("\n\n", 0), ("5 to a\n", 1), ("\n5 to a", 0), ("5 to a\n\n6 to b", 1), ("5 to a\n6 to b\n", 2),
            ("5 to\na", 0), ("5 to a\n\n", 1), ("5 to a\r6 to b", 0), ("5 to a\x0b6 to b", 0), ("5 to a\x0c", 0),
            ("5 to a\u20286 to b", 0),
        ):
            refusal(self, NoText, {"line": line}, read_row, text)

    def test_each_line_is_one(self):
        refusal(self, NoText, {"line": 2}, read_row, "5 to a\n5x5 to b")
        refusal(self, NoText, {"line": 3}, read_row, "5x5 to a\n5 to b\n5x5 to c")
        self.assertEqual(len(read_row("\n".join(["5 to a"] * 60))), 60)
        for many in (61, 62, 500):
            refusal(self, NoText, {"line": many}, read_row, "\n".join(["5 to a"] * many))
        refusal(self, NoText, {"line": 61}, read_row, "\n".join(["5 to a"] * 61 + ["x"]))
        refusal(self, NoText, {"line": 1}, read_row, "5 to a\n6 too b\n5x5 to c")
        refusal(self, NoText, {"line": 2}, read_row, "5 to a\n5x5 to c\n6 too b")

    def test_no_texts(self):
        for thing in anything() + [("5 to a",), ["5 to a"], {"5 to a": 1}, Row([]), Lot([]), b"5 to a"]:
            if not isinstance(thing, str):
                refusal(self, NoText, {"line": 0}, read_row, thing)
                refusal(self, NoText, {"line": 0}, read_lot, thing)

    def test_one_sign_otherwise(self):
        found = 0
        for text in ("5 to a", "10x0 to ab\n7x4000000000 to abcdefgh", "1x2x3x4x5x6x7x8 to a"):
            for other in edits(text, "015x at\n;"):
                lines = other.split("\n") if other else []
                pairs = told_of(lines, pair_in)
                if isinstance(pairs, int):
                    refusal(self, NoText, {"line": pairs}, read_row, other)
                elif len({len(hole) for hole, _ in pairs}) > 1:
                    refusal(self, NoText, {"line": len(lines)}, read_row, other)
                else:
                    self.assertEqual(read_row(other), Row(pairs))
                    self.assertEqual(show_row(Row(pairs)), other)
                    found += 1
        self.assertGreater(found, 50)


class Lots(unittest.TestCase):
    def check(self, lot, text=None):
        told = show_lot(lot)
        if text is not None:
            self.assertEqual(told, text)
        self.assertEqual(show_lot(lot=lot), told)
        self.assertIs(type(told), str)
        self.assertEqual(read_lot(told), lot)
        self.assertEqual(read_lot(text=told), lot)
        self.assertIs(type(read_lot(told)), Lot)
        self.assertTrue(is_plain(read_lot(told).sorts()))
        self.assertEqual(told_of(told.split("\n") if told else [], sort_in), lot.sorts())

    def test_written(self):
        self.check(Lot([]), "")
        self.check(Lot([("a", (5,), ALL)]), "sort a 5 while all end")
        self.check(Lot([("a", (5, 10), ("size", 1, 10))]), "sort a 5x10 while size 1 10")
        self.check(
            Lot([("cap", (5, 10), ("worth", ("sum", (1, 1000)), 7)), ("while", (5, 1), ("worth", ("times",), 0))]),
            "sort cap 5x10 while worth sum 1 1000 at 7\nsort while 5x1 while worth times at 0",
        )
        self.check(
            Lot([("b", (5,), ("any", ("size", 0, 9), ("all",), ("worth", ("add", ("low",), ("high",)), 3)))]),
            "sort b 5 while any size 0 9 all end worth add low high at 3 end",
        )
        scale = ("lesser", ("sum", (2, 3)), ("greater", ("sum", (0, 0)), ("add", ("times",), ("sum", (9, 1)))))
        self.check(
            Lot([("c", (5, 4), ("all", ("any", ("worth", scale, 12))))]),
            "sort c 5x4 while all any worth lesser sum 2 3 greater sum 0 0 add times sum 9 1 at 12 end end",
        )

    def test_great_numbers(self):
        text = f"sort a {'x'.join(['1000000000'] * 8)} while any size 7 1000000000 worth times at 1{'0' * 75} end"
        self.check(read_lot(text), text)
        refusal(self, NoText, {"line": 0}, read_lot, text.replace("0 end", "1 end"))

    def test_none_to_twelve_sorts(self):
        for seed in range(78):
            self.check(some_lot(seed, 1 + seed % 8, seed % 13, most=9))

    def test_every_scale_and_rule_to_four_deep(self):
        chance = random.Random(5)
        words = set()
        for seed in range(150):
            many = 1 + seed % 4
            sorts = []
            for name in NAMES[: chance.randint(1, 12)]:
                greatest = tuple(1 + part for part in some_thing(chance, many, 9))
                rule = deep_rule(chance, many, 1 + seed % 4)
                sorts.append((name, greatest, rule))
            lot = Lot(sorts)
            self.check(lot)
            words.update(show_lot(lot).split())
        known = {"sum", "times", "low", "high", "add", "lesser", "greater", "size", "worth", "all", "any", "end", "at"}
        self.assertTrue(words >= known)

    def test_no_lines_of_any_lot(self):
        right = "sort a 5x9 while "
        for line in (
            " ", "sort", "sort a", "sort a 5", "sort a 5 while", right, right + "all", right + "end", right + "all end end",
            right + "all end ", " " + right + "all end", right + " all end", right + "all  end", right + "all end all end",
            "sort  a 5 while all end", "Sort a 5 while all end", "sort A 5 while all end", "sort a 5 While all end",
            "sort abcdefghi 5 while all end", "sort a 05 while all end", "sort a 5x while all end", "sort a while all end",
            "sort 5 a while all end", "a 5 while all end", "5 to a", "sort a 5 while ALL end", "sort a1 5 while all end",
            "sort a 1000000001 while all end", "sort a 1x1x1x1x1x1x1x1x1 while all end", right + "size 2 0", right + "size 0",
            right + "size", right + "size 0 6", right + "size 0 05", right + "size 00 5", right + "size 0 5 5",
            right + "size 0 1000000001", right + "any end", right + "any size 0 6 end", right + "worth low 3",
            right + "worth low at", right + "worth low at 6", right + "worth at 3", right + "worth", right + "worth sum at 3",
            right + "worth sum 1 at 3", right + "worth sum 1 2 3 at 3", right + "worth sum 1001 1 at 3",
            right + "worth sum 1 02 at 3", right + "worth sum 1x2 at 3", right + "worth sum 1 2 at 3 4",
            right + "worth times 1 at 3", right + "worth add low at 3", right + "worth add low high low at 3",
            right + "worth low at 03", right + "worth low at -3", right + "worth low at 1" + "0" * 75,
            right + "worth low at 1" + "0" * 76, right + "worth low at " + "9" * 80, right + "worth low at " + "9" * 81,
            right + "worth low at " + "9" * 5000, right + "worth sum 1 " + "9" * 5000 + " at 3", right + "size 0 " + "1" * 5000,
            right + "size " + "1" * 5000 + " 0", "sort a " + "1" * 5000 + " while all end", right + "worth sum " + "1 " * 5000 + "at 3",
            right + "all " + "size 0 1 " * 5 + "end", right + "any " + "all end " * 5 + "end",
            right + "all " * 5 + "end " * 4 + "end", right + "all all all all size 0 1 end end end end",
            right + "all all all all worth low at 0 end end end end",
            right + "all " * 5000 + "end " * 4999 + "end", right + "all " * 5000, right + "any all " * 3000 + "size 0 0",
            right + "worth add low add low add low add low low at 0", right + "worth " + "add " * 5000 + "low at 0",
            right + "worth " + "add low " * 5000 + "low at 0", right + "worth " + "greater add low high " * 5 + "low at 0",
            right + "worth low at size 0 0", right + "size size 0", right + "low", right + "size 0 0 at 3",
            right + "all\tend", right + "size \u0665 0", right + "size 0 \u00b2", right + "all end; ",
        ):
            refusal(self, NoText, {"line": 0}, read_lot, line)
            refusal(self, NoText, {"line": 1}, read_lot, "sort b 5x9 while all end\n" + line)
            refusal(self, NoText, {"line": 0}, read_lot, line + "\nsort a 5x9 while all end\n" + line)
            self.assertIsNone(sort_in(line) if len(line) < 300 else None)

    def test_four_deep_is_right(self):
        for rule in (
            "all all all all end end end end", "all all all size 0 1 end end end", "any any any worth low at 0 end end end",
            "all all all worth add low add low add low low at 0 end end end",
            "all size 0 0 size 0 0 size 0 0 size 0 0 end", "worth greater add lesser low low low low at 0",
        ):
            self.check(read_lot(f"sort a 5 while {rule}"), f"sort a 5 while {rule}")

    def test_each_line_is_one(self):
        one, other = "sort a 5 while all end", "sort b 6 while all end"
        refusal(self, NoText, {"line": 2}, read_lot, f"{one}\n{one}")
        refusal(self, NoText, {"line": 2}, read_lot, f"{one}\nsort b 6x6 while all end")
        refusal(self, NoText, {"line": 3}, read_lot, f"{one}\n{other}\nsort a 7 while all end")
        lines = [f"sort {name} 5 while all end" for name in "abcdefghijklmnop"]
        self.assertEqual(len(read_lot("\n".join(lines[:12]))), 12)
        for many in (13, 14, 16):
            refusal(self, NoText, {"line": many}, read_lot, "\n".join(lines[:many]))
        refusal(self, NoText, {"line": 13}, read_lot, "\n".join(lines[:13] + ["x"]))
        refusal(self, NoText, {"line": 2}, read_lot, f"{one}\n{one}\nsort b 5 while any end")
        refusal(self, NoText, {"line": 1}, read_lot, f"{one}\nsort b 5 while any end\n{one}\nsort")

    def test_line_feeds(self):
        one, other = "sort a 5 while all end", "sort b 6 while all end"
        for text, line in (
            ("\n", 0), (one + "\n", 1), ("\n" + one, 0), (f"{one}\n\n{other}", 1), (f"{one}\n{other}\n", 2),
            ("sort a 5 while\nall end", 0), (one + "\r" + other, 0), (one + "; " + other, 0),
        ):
            refusal(self, NoText, {"line": line}, read_lot, text)

    def test_one_sign_or_word_otherwise(self):
        found = 0
        words = "sort a 5 while all end any size 0 worth low at sum 1 add".split()
        for text in (
            "sort a 5x9 while worth add low sum 1 2 at 10", "sort a 5 while all size 0 4 any end all end end",
            "sort ab 7 while any worth lesser times high at 3 end\nsort b 10 while size 0 1",
        ):
            others = list(edits(text, "01x a\n"))
            parts = text.split(" ")
            for at in range(len(parts)):
                for word in words:
                    others += [" ".join(parts[:at] + [word] + parts[at:]), " ".join(parts[:at] + [word] + parts[at + 1:])]
                others += [" ".join(parts[:at] + parts[at + 1:]), " ".join(parts[:at] + [""] + parts[at:])]
            for other in others:
                found += self.check_other(other)
        self.assertGreater(found, 40)

    def check_other(self, text):
        lines = text.split("\n") if text else []
        sorts = told_of(lines, sort_in)
        if isinstance(sorts, int):
            refusal(self, NoText, {"line": sorts}, read_lot, text)
            return 0
        if len({len(sort[1]) for sort in sorts}) > 1 or len({sort[0] for sort in sorts}) < len(sorts):
            refusal(self, NoText, {"line": len(lines)}, read_lot, text)
            return 0
        self.assertEqual(read_lot(text), Lot(sorts))
        self.assertEqual(show_lot(Lot(sorts)), text)
        return 1


class Whole(unittest.TestCase):
    def test_what_is_read_grades_as_it_did(self):
        for seed in range(60):
            lot = some_lot(seed, 1 + seed % 4, seed % 6, most=9)
            told = graded(lot)
            again = graded(read_lot(show_lot(lot)))
            self.assertEqual(again, told)
            if told[0] == "row":
                self.assertEqual(read_row(show_row(told[1])), told[1])
