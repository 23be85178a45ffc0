"""Texts of rows and lots."""

from gapgrades.things import written


def scale_text(scale):
    """The scale as it is written."""
    word = scale[0]
    if word == "sum":
        return " ".join([word, *[str(weight) for weight in scale[1]]])
    return " ".join([word, *[scale_text(part) for part in scale[1:]]])


def rule_text(rule):
    """The rule as it is written."""
    word = rule[0]
    if word == "size":
        return f"size {rule[1]} {rule[2]}"
    if word == "worth":
        return f"worth {scale_text(rule[1])} at {rule[2]}"
    return " ".join([word, *[rule_text(part) for part in rule[1:]], "end"])


def sort_text(sort):
    """The line of a sort."""
    name, greatest, rule = sort
    return f"sort {name} {written(greatest)} while {rule_text(rule)}"


def show_row(row):
    """The text of the row: a line for each hole."""
    return str(row)


def show_lot(lot):
    """The text of the lot: a line for each sort."""
    return "\n".join([sort_text(sort) for sort in lot.sorts()])
