"""Books to ask, and all that one tells."""

import unittest

from partwares.book import Book
from partwares.errors import WareError
from partwares.tills import owed_by, people_of, sums_of, till_of

DAYS = (0, 1, 2, 3, 5, 8, 13, 21, 34, 55, 399, 400)
HOUSES, KINDS = ("fort", "hall", "inn", "mill"), ("cup", "jug")
WARES = ("aa", "far", "jug", "one", "six", "two", "wa", "wb", "wc", "wd", "we", "wf")


def book_with(*entries):
    """A Book of these entries (day, word, thing, ..), in their order."""
    book = Book()
    for day, *deed in entries:
        book.enter(day, tuple(deed))
    return book


def tried(ask, *things):
    """What an ask tells, or the name of its refusal's class."""
    try:
        return ask(*things)
    except WareError as refusal:
        return type(refusal).__name__


def told_on(book, day):
    """What a book tells as of a day."""
    return (
        [tried(book.state, ware, day) for ware in WARES], [tried(book.house_of, ware, day) for ware in WARES],
        book.stands(day), [tried(book.waits, house, kind, day) for house in HOUSES for kind in KINDS],
        [tried(till_of, book, house, day) for house in HOUSES],
        [tried(owed_by, book, house, other, day) for house in HOUSES for other in HOUSES],
        sums_of(book, day), people_of(book, day),
    )


def told_of(book, days=DAYS):
    """All that a book tells of these names, but the numbers of its entries."""
    words = dict(book.voids())
    return (
        [(day, deed) for day, _, deed in book.entries()], len(book), repr(book),
        [words.get(number, "") for _, number, _ in book.entries()],
        [tried(book.rows, ware) for ware in WARES], [tried(book.fate, ware) for ware in WARES],
        [told_on(book, day) for day in days],
    )


class BookTest(unittest.TestCase):
    """Tests that look at the rows of wares and at void deeds."""

    def rows(self, book, ware, *rows):
        self.assertEqual(book.rows(ware), list(rows))

    def voids(self, *entries, word):
        """The last of the entries is void by that word, and does nothing; none ahead of it is void."""
        ahead = book_with(*entries[:-1])
        self.assertEqual(ahead.voids(), [])
        book = book_with(*entries)
        self.assertEqual(book.voids(), [(len(entries) - 1, word)])
        self.assertEqual(told_of(book)[4:], told_of(ahead)[4:])

    def balanced(self, book, days=range(0, 60)):
        """Till and owed, less owes, are paid and earned, on each of the days."""
        for day in days:
            for house, till, paid, earned, owed, owes in sums_of(book, day):
                self.assertEqual(till + owed - owes, paid + earned, (house, day))
