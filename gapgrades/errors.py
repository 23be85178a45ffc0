"""Refusals: each class keeps the fields that it is made of."""


class NoRow(ValueError):
    """The holes handed in make no row: -1, or the first place that isn't so."""

    def __init__(self, place):
        self.place = place


class NoSort(ValueError):
    """The sorts handed in make no lot: -1, or the place of what is no sort."""

    def __init__(self, place):
        self.place = place


class Empty(ValueError):
    """The sort of this name doesn't have its own greatest thing."""

    def __init__(self, name):
        self.name = name


class NoThing(ValueError):
    """It is no thing that will do here."""


class NoScale(ValueError):
    """The lot has no scale."""


class NoStretch(ValueError):
    """The sort of this name is no stretch."""

    def __init__(self, name):
        self.name = name


class NoOrder(ValueError):
    """It is no order of the lot."""


class NoText(ValueError):
    """The text can't be read: the number of the line from which on it can't."""

    def __init__(self, line):
        self.line = line


class NoAsk(ValueError):
    """The desk can't answer what was asked."""

    def __init__(self, asked):
        self.asked = asked


class NoName(KeyError):
    """It is none of the names there are."""

    def __init__(self, name):
        self.name = name


class Twice(KeyError):
    """The name, or the number, is there already."""

    def __init__(self, name):
        self.name = name


class NoPiece(KeyError):
    """It is no piece's number."""

    def __init__(self, number):
        self.number = number


class Unlike(LookupError):
    """What stands at this place has another number of measures than the first one."""

    def __init__(self, place):
        self.place = place


class NotOne(LookupError):
    """The name doesn't belong to just one hole and one sort."""

    def __init__(self, name):
        self.name = name


class NotGraded(LookupError):
    """The row doesn't grade the sort of this name."""

    def __init__(self, name):
        self.name = name


class NoPlace(IndexError):
    """There is no such place."""

    def __init__(self, place):
        self.place = place


class NoNumber(IndexError):
    """There is nothing of this number."""

    def __init__(self, number):
        self.number = number


class TooSmall(ArithmeticError):
    """The greatest thing of the sort of this name doesn't fit its hole."""

    def __init__(self, name):
        self.name = name


class Against(ArithmeticError):
    """No row does what was told: the least place at which it can't be."""

    def __init__(self, place):
        self.place = place


class TooMany(OverflowError):
    """There are more than will do: so many."""

    def __init__(self, many):
        self.many = many


class Ringed(RuntimeError):
    """The sorts would have a ring."""


class Held(RuntimeError):
    """There is still a piece of the sort of this name."""

    def __init__(self, name):
        self.name = name


class NoDeed(RuntimeError):
    """There is no deed that could be taken back."""
