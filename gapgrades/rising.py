"""Lots with a scale, and their rows by rising numbers."""

from gapgrades.errors import NoScale
from gapgrades.rows import Row


def scale_of(lot):
    """The one scale on which each rule of the lot is a worth, or None."""
    rules = [rule for name, greatest, rule in lot.sorts()]
    if not rules or rules[0][0] != "worth":
        return None
    scale = rules[0][1]
    return scale if all([rule[:2] == ("worth", scale) for rule in rules]) else None


def check_scale(lot):
    """Refuse a lot without a scale."""
    if scale_of(lot) is None:
        raise NoScale()


def rising(lot):
    """The row of the greatest things by rising numbers of their rules, of alike ones by names."""
    check_scale(lot)
    sorts = sorted(lot.sorts(), key=lambda sort: (sort[2][2], sort[0]))
    return Row([(greatest, name) for name, greatest, rule in sorts])
