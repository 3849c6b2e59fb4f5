"""[15], and [2] of its functions: tills, what houses owe, what people paid, where two books part."""

import inspect
import unittest

from books import BookTest, book_with, told_of, tried

from partwares import tills
from partwares.book import Book
from partwares.errors import NoHouse
from partwares.tills import owed_by, parting, people_of, sums_of, till_of

BOOK = (
    (1, "house", "inn", "3 parts by 7 days, grace 2, keep 0 10 50, falls 30, back 5"),
    (2, "house", "mill", "2 parts by 3 days, keep 20"),
    (3, "price", "inn", "cup", 90), (3, "ware", "one", "cup", "inn"), (3, "ware", "two", "cup", "inn"),
    (4, "put", "inn", "cup", "ann"), (4, "put", "inn", "cup", "bob"), (4, "pay", "one", "ann"), (4, "pay", "two", "cat"),
    (5, "pay", "one", "bob"), (6, "pay", "one", "ann"), (7, "hand", "inn", "mill"), (8, "settle", "inn", "mill", 20),
    (9, "bring", "one"), (10, "up", "two"),
)
# By days: (house, till, paid, earned, owed, owes).
SUMS = {
    0: [],
    1: [("inn", 0, 0, 0, 0, 0)],
    3: [("inn", 0, 0, 0, 0, 0), ("mill", 0, 0, 0, 0, 0)],
    4: [("inn", 60, 60, 0, 0, 0), ("mill", 0, 0, 0, 0, 0)],
    5: [("inn", 90, 90, 0, 0, 0), ("mill", 0, 0, 0, 0, 0)],
    6: [("inn", 120, 30, 90, 0, 0), ("mill", 0, 0, 0, 0, 0)],
    7: [("inn", 120, 0, 90, 0, 30), ("mill", 0, 30, 0, 30, 0)],
    8: [("inn", 100, 0, 90, 0, 10), ("mill", 20, 30, 0, 10, 0)],
    9: [("inn", 100, 0, 0, 0, 100), ("mill", -70, 30, 0, 100, 0)],
    10: [("inn", 100, 0, 0, 0, 100), ("mill", -97, 0, 3, 100, 0)],
    400: [("inn", 100, 0, 0, 0, 100), ("mill", -97, 0, 3, 100, 0)],
}
PEOPLE = {
    3: [], 4: [("ann", 30, 0), ("cat", 30, 0)], 5: [("ann", 30, 0), ("bob", 30, 0), ("cat", 30, 0)],
    8: [("ann", 60, 0), ("bob", 30, 0), ("cat", 30, 0)], 9: [("ann", 60, 60), ("bob", 30, 30), ("cat", 30, 0)],
    400: [("ann", 60, 60), ("bob", 30, 30), ("cat", 30, 27)],
}


class TillsTest(BookTest):
    def setUp(self):
        self.book = book_with(*BOOK)
        self.assertEqual(self.book.voids(), [])

    def test_names_of_arguments_and_defaults(self):
        for name, arguments in {
                "till_of": ["book", "house", "day"], "owed_by": ["book", "house", "other", "day"],
                "sums_of": ["book", "day"], "people_of": ["book", "day"], "parting": ["one", "other"]}.items():
            parameters = inspect.signature(getattr(tills, name)).parameters
            self.assertEqual(list(parameters), arguments)
            if "day" in arguments:
                self.assertEqual(parameters["day"].default, 400)
        book = self.book
        self.assertEqual(till_of(day=4, house="inn", book=book), 60)
        self.assertEqual(owed_by(day=7, other="mill", house="inn", book=book), 30)
        self.assertEqual(sums_of(day=4, book=book), SUMS[4])
        self.assertEqual(people_of(day=4, book=book), PEOPLE[4])
        self.assertEqual(parting(other=Book(), one=book), ["one", "two"])

    def test_sums_of_each_day(self):
        for day, sums in SUMS.items():
            with self.subTest(day):
                self.assertEqual(sums_of(self.book, day), sums)
        self.assertEqual(sums_of(self.book), SUMS[400])
        self.balanced(self.book)

    def test_tills_and_what_is_owed_as_the_sums_have_it(self):
        for day, sums in SUMS.items():
            for house, till, _, _, owed, owes in sums:
                self.assertEqual(till_of(self.book, house, day), till)
                if len(sums) == 2:
                    other = "mill" if house == "inn" else "inn"
                    self.assertEqual(owed_by(self.book, house, other, day), owes)
                    self.assertEqual(owed_by(self.book, other, house, day), owed)
        self.assertEqual((till_of(self.book, "inn"), owed_by(self.book, "inn", "mill")), (100, 100))
        self.assertEqual(owed_by(self.book, "inn", "inn"), 0)

    def test_people_of_each_day(self):
        for day, people in PEOPLE.items():
            with self.subTest(day):
                self.assertEqual(people_of(self.book, day), people)
        self.assertEqual(people_of(self.book), PEOPLE[400])
        self.assertEqual(people_of(Book()), [])

    def test_no_house_by_the_end_of_a_day(self):
        for day, house, right in ((0, "inn", "NoHouse"), (1, "inn", 0), (1, "mill", "NoHouse"), (2, "mill", 0),
                                  (400, "hall", "NoHouse"), (400, "one", "NoHouse")):
            self.assertEqual(tried(till_of, self.book, house, day), right)
        for day, house, other, right in ((0, "inn", "mill", "NoHouse"), (1, "inn", "mill", "NoHouse"),
                                         (1, "mill", "inn", "NoHouse"), (2, "inn", "mill", 0), (2, "mill", "inn", 0),
                                         (400, "inn", "hall", "NoHouse"), (400, "hall", "inn", "NoHouse")):
            self.assertEqual(tried(owed_by, self.book, house, other, day), right)
        with self.assertRaises(NoHouse):
            till_of(Book(), "inn")
        with self.assertRaises(NoHouse):
            owed_by(Book(), "inn", "inn")

    def test_several_houses_owe_one_and_each_other(self):
        book = book_with(
            *[(0, "house", house, "3 parts by 7 days, back 30") for house in ("fort", "hall", "inn", "mill")],
            *[(0, "price", house, "cup", 30) for house in ("hall", "inn")],
            (0, "ware", "wa", "cup", "hall"), (0, "ware", "wb", "cup", "inn"), (0, "ware", "wc", "cup", "inn"),
            (0, "put", "hall", "cup", "ann"), (0, "put", "inn", "cup", "ann"), (0, "put", "inn", "cup", "ann"),
            (0, "pay", "wa", "ann"), *[(0, "pay", "wb", "ann")] * 3, (0, "pay", "wc", "ann"), (1, "hand", "hall", "mill"),
            (1, "hand", "inn", "mill"), (1, "bring", "wb"), (2, "hand", "mill", "fort"))
        self.assertEqual(sums_of(book, 2), [
            ("fort", 0, 20, 0, 20, 0), ("hall", 10, 0, 0, 0, 10), ("inn", 40, 0, 0, 0, 40), ("mill", -30, 0, 0, 50, 20)])
        self.balanced(book)

    def test_houses_and_people_rise_whatever_their_order(self):
        book = book_with(*[(0, "house", house, "2 parts by 7 days, grace 7") for house in ("mill", "inn", "hall", "fort")],
                         (0, "price", "inn", "cup", 40), (0, "ware", "two", "cup", "inn"), (0, "ware", "one", "cup", "inn"),
                         (1, "put", "inn", "cup", "cat"), (1, "put", "inn", "cup", "bob"), (1, "pay", "two", "bob"),
                         (1, "pay", "one", "cat"), (2, "pay", "one", "ann"))
        self.assertEqual([row[0] for row in sums_of(book)], ["fort", "hall", "inn", "mill"])
        self.assertEqual(people_of(book, 2), [("ann", 20, 0), ("bob", 20, 0), ("cat", 20, 0)])

    def test_what_was_brought_back_is_not_earned_and_sold_anew_is(self):
        book = book_with(*BOOK[:-2], (9, "bring", "one"), (10, "put", "mill", "cup", "dan"), (10, "pay", "one", "dan"),
                         (11, "pay", "one", "dan"))
        self.assertEqual(sums_of(book, 11), [("inn", 100, 0, 0, 0, 100), ("mill", 20, 30, 90, 100, 0)])
        self.balanced(book)

    def test_told_lists_are_the_asker_s_own_and_asking_changes_nothing(self):
        ahead = told_of(self.book)
        for ask in (sums_of, people_of, lambda book: parting(book, Book())):
            one, other = ask(self.book), ask(self.book)
            self.assertIsNot(one, other)
            self.assertIs(type(one), list)
            one.clear()
            self.assertEqual(ask(self.book), other)
            self.assertNotEqual(other, [])
        self.assertEqual({type(row) for row in sums_of(self.book) + people_of(self.book)}, {tuple})
        self.assertEqual(told_of(self.book), ahead)


class PartingTest(BookTest):
    def test_of_books_alike_and_their_twins(self):
        book = book_with(*BOOK)
        self.assertEqual(parting(book, book), [])
        self.assertEqual(parting(book, book.twin()), [])
        self.assertEqual(parting(Book(), Book()), [])
        # Unlike books may come to the same rows.
        self.assertEqual(parting(book, book_with(*BOOK, (11, "house", "hall", "1 parts by 1 days"))), [])

    def test_as_the_turns_tell_it(self):
        book = book_with(*BOOK)
        for number in range(len(BOOK)):
            other = book.twin()
            wares = other.strike(number)
            self.assertEqual((parting(book, other), parting(other, book)), (wares, wares))
        self.assertEqual((parting(book, Book()), parting(Book(), book)), (["one", "two"], ["one", "two"]))

    def test_wares_of_one_book_alone(self):
        one, other = book_with(*BOOK, (9, "ware", "six", "cup", "mill")), book_with(*BOOK, (9, "ware", "aa", "cup", "mill"))
        self.assertEqual(parting(one, other), ["aa", "six"])


if __name__ == "__main__":
    unittest.main()
