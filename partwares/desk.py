"""The desk: rows of deeds, strikes, undo and asks, each one answered by a text."""

from partwares.book import Book
from partwares.bounds import LAST_DAY
from partwares.errors import NoEntry, NoHouse, NoWare
from partwares.purses import most_paid
from partwares.texts import entry_in, turns_in
from partwares.tills import sums_of
from partwares.words import is_name, number_in, pence_in, pence_text
from partwares.world import next_parts_of

MOST_NUMBER = 999
# The sorts of what stands behind each word of a row that is no deed's, in order.
ASKS = {
    "strike": ("number",),
    "undo": (),
    "state": ("name", "day"),
    "rows": ("name",),
    "stands": ("day",),
    "waits": ("name", "name", "day"),
    "sums": ("day",),
    "voids": (),
    "last": ("name", "day"),
    "most": ("day", "name", "pence"),
}


def run(text):
    """The list of the answers to the rows of a text; refused with BadRow, ahead of all answers."""
    turns = turns_in(text, turn_in)
    book = Book()
    return [answer(book, turn) for turn in turns]


def turn_in(row):
    """What a row tells: a tuple of its word and things, None where it is of another form."""
    word, *pieces = row.split(" ")
    if word not in ASKS:
        return entry_in(row)
    sorts = ASKS[word]
    if len(pieces) != len(sorts):
        return None
    things = [thing_in(piece, sort) for piece, sort in zip(pieces, sorts)]
    return None if None in things else (word, *things)


def thing_in(piece, sort):
    """The thing of that sort that a piece of a row tells, else None."""
    if sort == "number":
        return number_in(piece, MOST_NUMBER)
    if sort == "day":
        return number_in(piece, LAST_DAY)
    if sort == "pence":
        return pence_in(piece)
    return piece if is_name(piece) else None


def answer_enter(book, day, deed):
    """The wares that an enter tells."""
    number, wares = book.enter(day, deed)
    return by_blanks(wares)


def answer_strike(book, number):
    """The wares that a strike tells."""
    return by_blanks(book.strike(number))


def answer_undo(book):
    """The wares that undo tells."""
    return by_blanks(book.undo())


def answer_state(book, ware, day):
    """The word, and who, if any."""
    word, who = book.state(ware, day)
    return word if who == "" else f"{word} {who}"


def answer_rows(book, ware):
    """The rows of a ware."""
    return by_rows([f"{day} {word} {name} {pence_text(pence)}" for day, word, name, pence in book.rows(ware)])


def answer_stands(book, day):
    """The rows of all wares put by."""
    return by_rows([
        f"{ware} {who} {pence_text(paid)} {pence_text(price)} {last}"
        for ware, who, paid, price, last in book.stands(day)
    ])


def answer_waits(book, house, kind, day):
    """The names of those who wait."""
    return by_blanks(book.waits(house, kind, day))


def answer_sums(book, day):
    """The rows of the sums of all houses."""
    return by_rows([by_blanks([house] + [sum_text(pence) for pence in sums]) for house, *sums in sums_of(book, day)])


def answer_voids(book):
    """The rows of void deeds."""
    return by_rows([f"{number} {word}" for number, word in book.voids()])


def answer_last(book, ware, day):
    """The last day on which the next part may be paid."""
    # A ware that isn't there is refused by this.
    book.state(ware, day)
    return by_blanks([str(last) for name, who, paid, price, last in book.stands(day) if name == ware])


def answer_most(book, day, who, pence):
    """As many wares as can be whose next parts can be paid of the pence."""
    return by_blanks(most_paid(next_parts_of(book.as_of(day), who), [(day, pence)]))


def by_blanks(names):
    """Names by blanks, a stroke of none."""
    return " ".join(names) if len(names) > 0 else "-"


def by_rows(rows):
    """Rows by semicolons, a stroke of none."""
    return " ; ".join(rows) if len(rows) > 0 else "-"


def sum_text(pence):
    """The text of a sum that may be below 0."""
    return f"-{pence_text(-pence)}" if pence < 0 else pence_text(pence)


ANSWERS = {
    "enter": answer_enter,
    "strike": answer_strike,
    "undo": answer_undo,
    "state": answer_state,
    "rows": answer_rows,
    "stands": answer_stands,
    "waits": answer_waits,
    "sums": answer_sums,
    "voids": answer_voids,
    "last": answer_last,
    "most": answer_most,
}


def answer(book, turn):
    """The answer to a turn or an ask, or the words of its refusal."""
    word, *things = turn
    action = ANSWERS[word]
    try:
        return action(book, *things)
    except NoEntry:
        return "no entry"
    except NoWare:
        return "no ware"
    except NoHouse:
        return "no house"
