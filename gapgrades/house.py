"""The house: sorts, a row that grades them, and pieces, over all its deeds."""

from gapgrades.errors import Held, NoDeed, NoPiece, NoThing, Ringed, Twice
from gapgrades.grading import graded
from gapgrades.lots import Lot
from gapgrades.names import copied, is_whole, is_whole_from
from gapgrades.putting import put_in
from gapgrades.rows import Row
from gapgrades.things import fits, is_thing

GREATEST_NUMBER = 9999


def row_with(lot, row, sort):
    """The row with a hole for the sort, too, and how many of the elder ones were hung anew for it."""
    told = put_in(lot, row, sort)
    if told[0] == "row":
        return told[1], 0
    kind, found = graded(Lot([*lot.sorts(), sort]))
    if kind == "ring":
        raise Ringed()
    return found, len(row)


def piece_of(house, number):
    """The piece, (name, thing), of this number."""
    if not is_whole(number) or number not in house.stock:
        raise NoPiece(copied(number))
    return house.stock[number]


def put_sorts(house, lot, row, anew):
    """Let the house have these sorts and this row."""
    house.sorts_kept = lot
    house.row_kept = row
    house.anew = anew


def change_sorts(house, lot, row, anew):
    """Let the house have these sorts and this row, and keep what is needed to take that back."""
    house.log.append(("sorts", house.sorts_kept, house.row_kept, house.anew))
    put_sorts(house, lot, row, anew)


def uncount(house, bin_name):
    """Take back one run into this bin."""
    house.counts[bin_name] -= 1
    if house.counts[bin_name] == 0:
        del house.counts[bin_name]


def restore_piece(house, number, elder):
    """Let the piece be as it was; None: there was none, and its number is free."""
    if elder is not None:
        house.stock[number] = elder
        return
    del house.stock[number]
    del house.used[number]


class House:
    """A house: each good piece falls into its own bin, always."""

    def __init__(self):
        self.sorts_kept = Lot([])
        self.row_kept = Row([])
        self.anew = None
        self.stock = {}
        # Numbers of pieces that were taken out are in here, too.
        self.used = {}
        self.counts = {}
        # What is needed to take back each deed, and each run: ("sorts", lot, row, anew),
        # ("piece", number, what was there) or ("run", bin).
        self.log = []

    def tell(self, sort):
        """Have a sort more."""
        row, anew = row_with(self.sorts_kept, self.row_kept, sort)
        change_sorts(self, Lot([*self.sorts_kept.sorts(), sort]), row, anew)

    def drop(self, name):
        """Have a sort fewer."""
        gone = self.sorts_kept.sort_of(name)
        if gone[0] in [kept[0] for kept in self.stock.values()]:
            raise Held(gone[0])
        lot = Lot([sort for sort in self.sorts_kept.sorts() if sort != gone])
        row = Row([pair for pair in self.row_kept.holes() if pair[1] != gone[0]])
        change_sorts(self, lot, row, self.anew)

    def piece(self, number, name, thing):
        """Have a piece more."""
        if not is_whole_from(number, 1, GREATEST_NUMBER):
            raise NoPiece(copied(number))
        if number in self.used:
            raise Twice(copied(number))
        if not self.sorts_kept.has(name, thing):
            raise NoThing()
        self.log.append(("piece", copied(number), None))
        self.stock[copied(number)] = (copied(name), copied(thing))
        self.used[copied(number)] = True

    def wear(self, number, thing):
        """Let the piece be worn to this thing; whether it is still good."""
        name, present = piece_of(self, number)
        if not is_thing(thing) or len(thing) != len(present) or not fits(thing, present):
            raise NoThing()
        self.log.append(("piece", copied(number), (name, present)))
        self.stock[number] = (name, copied(thing))
        return self.sorts_kept.has(name, thing)

    def run(self, number):
        """The bin into which the piece falls, or None for out."""
        bin_name = self.row_kept.bin_of(piece_of(self, number)[1])
        self.log.append(("run", bin_name))
        self.counts[bin_name] = self.counts.get(bin_name, 0) + 1
        return bin_name

    def take(self, number):
        """Take the piece out."""
        self.log.append(("piece", copied(number), piece_of(self, number)))
        del self.stock[number]

    def back(self):
        """Take back the last deed, and the runs behind it."""
        if not self.log:
            raise NoDeed()
        # The first entry of all is no run: only a piece runs, and to have one is a deed.
        entry = self.log.pop()
        while entry[0] == "run":
            uncount(self, entry[1])
            entry = self.log.pop()
        if entry[0] == "piece":
            restore_piece(self, entry[1], entry[2])
        else:
            put_sorts(self, entry[1], entry[2], entry[3])

    def lot(self):
        """The lot of its sorts."""
        return self.sorts_kept

    def row(self):
        """Its row."""
        return self.row_kept

    def pieces(self):
        """Tuples (number, name, thing, whether good), rising."""
        told = []
        for number in sorted(self.stock):
            name, thing = self.stock[number]
            told.append((number, name, thing, self.sorts_kept.has(name, thing)))
        return told

    def runs(self):
        """How many runs came to each bin, None for out."""
        return dict(self.counts)

    def hung_anew(self):
        """How many holes the last tell hung anew, or None without a tell."""
        return self.anew

    def twin(self):
        """A house that is as this one is, and goes its own way."""
        other = House()
        other.sorts_kept = self.sorts_kept
        other.row_kept = self.row_kept
        other.anew = self.anew
        other.stock = dict(self.stock)
        other.used = dict(self.used)
        other.counts = dict(self.counts)
        other.log = list(self.log)
        return other

    def __eq__(self, other):
        if not isinstance(other, House) or self.sorts_kept != other.sorts_kept or self.row_kept != other.row_kept:
            return False
        return self.stock == other.stock and self.counts == other.counts
