"""The texts of deeds and books, told and read."""

from partwares.book import Book
from partwares.bounds import LAST_DAY, MOST_ENTRIES
from partwares.deeds import FORMS, is_deed
from partwares.errors import BadRow
from partwares.words import number_in, pence_in, pence_text

PENCE_SORTS = ("price", "debt")


def deed_text(deed):
    """The text of a deed: its word and things, parted by blanks."""
    things = [pence_text(thing) if isinstance(thing, int) else thing for thing in deed]
    return " ".join(things)


def deed_in(text):
    """The deed of which deed_text tells just this text, else None."""
    word = text.split(" ")[0]
    if word not in FORMS:
        return None
    sorts = FORMS[word]
    # A rule's text, at the end, has blanks of its own.
    pieces = text.split(" ", len(sorts))[1:]
    things = [pence_in(piece) if sort in PENCE_SORTS else piece for piece, sort in zip(pieces, sorts)]
    deed = (word, *things)
    return deed if is_deed(deed) else None


def book_text(book):
    """The text of a book: a row of each entry, its day and its deed's text."""
    return "\n".join([f"{day} {deed_text(deed)}" for day, number, deed in book.entries()])


def book_of(text):
    """A Book into which the rows of a text were entered in their order; refused with BadRow."""
    book = Book()
    for word, day, deed in turns_in(text, entry_in):
        book.enter(day, deed)
    return book


def entry_in(row):
    """The turn ("enter", day, deed) that a row tells, else None."""
    told, blank, deed_told = row.partition(" ")
    day = number_in(told, LAST_DAY)
    deed = deed_in(deed_told)
    if day is None or deed is None:
        return None
    return ("enter", day, deed)


def turns_in(text, read):
    """The list of what read tells of each row that has signs; refused with BadRow where it tells None."""
    turns = []
    many = 0
    for number, row in enumerate(text.split("\n")):
        if row != "":
            turn = read(row)
            if turn is None:
                raise BadRow(number)
            many += 1 if turn[0] == "enter" else 0
            if many > MOST_ENTRIES:
                raise BadRow(number)
            turns.append(turn)
    return turns
