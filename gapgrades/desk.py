"""The desk: a house asked, and told, by rows of text."""

from gapgrades.arrows import arrow
from gapgrades.errors import NoAsk, NoThing, Ringed
from gapgrades.house import House, row_with
from gapgrades.names import copied
from gapgrades.slacks import slack
from gapgrades.spreads import spread
from gapgrades.texts import show_lot, show_row
from gapgrades.things import is_thing, written
from gapgrades.wording import read_measures, read_name, read_number, read_sort

# What stands behind the first word of each row but those of sorts.
FORMS = {
    "drop": ("name",), "piece": ("number", "name", "thing"), "take": ("number",), "back": (),
    "wear": ("number", "thing"), "run": ("number",), "row": (), "lot": (), "pieces": (), "runs": (),
    "where": ("thing",), "arrow": ("name", "name"), "spread": ("name",), "slack": (),
}


def listed(parts):
    """The parts as an answer has them."""
    return "; ".join(parts) if parts else "none"


def answer_sort(house, sort):
    """Tell the house a sort."""
    house.tell(sort)
    return "ok"


def answer_asks(house, sort):
    """What a tell of the sort would come to."""
    try:
        row_with(house.lot(), house.row(), sort)
    except Ringed:
        return "ring"
    return "ok"


def answer_drop(house, name):
    """Drop a sort."""
    house.drop(name)
    return "ok"


def answer_piece(house, number, name, thing):
    """Have a piece more."""
    house.piece(number, name, thing)
    return "ok"


def answer_take(house, number):
    """Take a piece out."""
    house.take(number)
    return "ok"


def answer_back(house):
    """Take back the last deed."""
    house.back()
    return "ok"


def state_of(good):
    """The word for a piece that is good, or isn't."""
    return "good" if good else "spent"


def answer_wear(house, number, thing):
    """Wear a piece."""
    return state_of(house.wear(number, thing))


def answer_run(house, number):
    """Run a piece."""
    bin_name = house.run(number)
    return "out" if bin_name is None else bin_name


def in_one_row(text):
    """The text with its lines in one row."""
    return text.replace("\n", "; ") if text else "none"


def answer_row(house):
    """The row."""
    return in_one_row(show_row(house.row()))


def answer_lot(house):
    """The lot."""
    return in_one_row(show_lot(house.lot()))


def answer_pieces(house):
    """The pieces."""
    told = house.pieces()
    return listed([f"{number} {name} {written(thing)} {state_of(good)}" for number, name, thing, good in told])


def answer_runs(house):
    """The runs, those that were out last."""
    runs = house.runs()
    parts = [f"{name} {runs[name]}" for name in sorted([name for name in runs if name is not None])]
    if None in runs:
        parts.append(f"out {runs[None]}")
    return listed(parts)


def place_text(place):
    """A place, or out."""
    return "out" if place is None else str(place)


def answer_where(house, thing):
    """Where a thing falls."""
    if not is_thing(thing) or house.lot().measures() not in (None, len(thing)):
        raise NoThing()
    return place_text(house.row().place_of(thing))


def answer_arrow(house, one, other):
    """The arrow from one sort to another."""
    thing = arrow(house.lot(), one, other)
    return "none" if thing is None else written(thing)


def answer_spread(house, name):
    """The spread of a sort."""
    told = spread(house.row(), house.lot(), name)
    return listed([f"{place_text(place)} {written(thing)}" for place, thing in told])


def answer_slack(house):
    """The slack of the row."""
    error = slack(house.row(), house.lot())
    return "none" if error is None else str(error)


ANSWERS = {
    "sort": answer_sort, "asks": answer_asks, "drop": answer_drop, "piece": answer_piece, "take": answer_take,
    "back": answer_back, "wear": answer_wear, "run": answer_run, "row": answer_row, "lot": answer_lot,
    "pieces": answer_pieces, "runs": answer_runs, "where": answer_where, "arrow": answer_arrow,
    "spread": answer_spread, "slack": answer_slack,
}


def read_word(kind, word):
    """What a word of this kind says, or None."""
    if kind == "name":
        return read_name(word)
    return read_number(word) if kind == "number" else read_measures(word)


def read_given(form, words):
    """What the words behind the first one say, by this form; None where one of them doesn't."""
    if len(words) != len(form):
        return None
    given = [read_word(kind, word) for kind, word in zip(form, words)]
    return None if None in given else given


def given_by(words):
    """What is given behind the first word, a list, or None where this is none of the rows."""
    if words[0] == "sort" or words[0] == "asks":
        sort = read_sort(words if words[0] == "sort" else words[1:])
        return None if sort is None else [sort]
    return read_given(FORMS[words[0]], words[1:]) if words[0] in FORMS else None


class Desk:
    """A desk: it answers rows of text with texts."""

    def __init__(self):
        self.house = House()

    def say(self, row):
        """What the desk answers to this row."""
        given = given_by(row.split(" ")) if isinstance(row, str) else None
        if given is None:
            raise NoAsk(copied(row))
        answer = ANSWERS[row.split(" ")[0]]
        return answer(self.house, *given)
