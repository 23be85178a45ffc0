"""Rows and lots read from their texts."""

from gapgrades.errors import NoRow, NoSort, NoText, Twice, Unlike
from gapgrades.lots import Lot, is_of_sort, is_sort
from gapgrades.rows import Row, is_hole_with_bin
from gapgrades.wording import read_measures, read_sort


def pair_of_line(line):
    """The tuple (hole, bin) of a line of a row, or None."""
    words = line.split(" ")
    if len(words) != 3 or words[1] != "to":
        return None
    pair = (read_measures(words[0]), words[2])
    return pair if is_hole_with_bin(pair) else None


def sort_of_line(line):
    """The sort of a line of a lot, or None."""
    sort = read_sort(line.split(" "))
    return sort if is_sort(sort) and is_of_sort(sort, sort[1]) else None


def read_lines(text, read_line):
    """What the lines say; refused is the first one that can't be read."""
    if not isinstance(text, str):
        raise NoText(0)
    lines = text.split("\n") if text else []
    told = []
    for number, line in enumerate(lines):
        part = read_line(line)
        if part is None:
            raise NoText(number)
        told.append(part)
    return told


def read_row(text):
    """The row that the text writes."""
    pairs = read_lines(text, pair_of_line)
    try:
        return Row(pairs)
    except NoRow:
        raise NoText(len(pairs)) from None


def read_lot(text):
    """The lot that the text writes."""
    sorts = read_lines(text, sort_of_line)
    try:
        return Lot(sorts)
    except (NoSort, Unlike, Twice):
        raise NoText(len(sorts)) from None
