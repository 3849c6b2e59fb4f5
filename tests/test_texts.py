"""[16], and [2] of its functions: texts of deeds and books."""

import random
import unittest

from books import book_with, told_of
from slow_book import any_deed, random_entries

from partwares.book import Book
from partwares.deeds import is_deed
from partwares.errors import BadRow, WareError
from partwares.texts import book_of, book_text, deed_in, deed_text

RULE = "3 parts by 7 days, grace 2, keep 0 10 50"
TEXTS = [
    (("house", "inn", RULE), f"house inn {RULE}"),
    (("house", "a", "1 parts by 1 days"), "house a 1 parts by 1 days"),
    (("price", "inn", "cup", 127), "price inn cup 2/07"),
    (("price", "inn", "cup", 1), "price inn cup 0/01"),
    (("price", "inn", "cup", 10 ** 6), "price inn cup 16666/40"),
    (("ware", "one", "cup", "inn"), "ware one cup inn"),
    (("put", "inn", "cup", "ann"), "put inn cup ann"),
    (("pay", "one", "ann"), "pay one ann"),
    (("up", "one"), "up one"),
    (("leave", "inn", "cup", "ann"), "leave inn cup ann"),
    (("bring", "abcdefgh"), "bring abcdefgh"),
    (("hand", "inn", "mill"), "hand inn mill"),
    (("settle", "inn", "mill", 60), "settle inn mill 1/00"),
    (("settle", "inn", "mill", 10 ** 8), "settle inn mill 1666666/40"),
]
SIGNS = [chr(code) for code in range(32, 127)] + ["\t", "\n"]
ROWS = [f"{day} {TEXTS[at][1]}" for at, day in enumerate((0, 400, 7, 10, 99, 100, 0, 5, 3, 3, 3, 2, 1, 399))]


class DeedTextTest(unittest.TestCase):
    def test_each_form(self):
        for deed, text in TEXTS:
            with self.subTest(text):
                self.assertEqual(deed_text(deed), text)
                self.assertEqual(deed_text(deed=deed), text)
                self.assertEqual(deed_in(text), deed)
                self.assertEqual(deed_in(text=text), deed)
                self.assertIs(type(deed_in(text)), tuple)

    def test_deeds_at_random(self):
        chance = random.Random(16)
        for _ in range(500):
            deed = any_deed(chance)
            self.assertEqual(deed_in(deed_text(deed)), deed)

    def test_texts_spoilt_by_a_sign_at_any_place(self):
        refused = 0
        for _, text in TEXTS:
            for place in range(len(text) + 1):
                for sign in SIGNS:
                    spoilt = [text[:place] + sign + text[place:], text[:place] + sign + text[place + 1:]]
                    for told in spoilt + [text[:place] + text[place + 1:]]:
                        deed = deed_in(told)
                        if deed is None:
                            refused += 1
                        else:
                            self.assertIs(is_deed(deed), True)
                            self.assertEqual(deed_text(deed), told)
        self.assertGreater(refused, 30000)

    def test_texts_of_none(self):
        for text in ("", " ", "  ", "\n", "\t", "house", "house ", "house inn", "house inn ", f"house inn  {RULE}",
                     f"house inn {RULE} ", f" house inn {RULE}", f"House inn {RULE}", "house inn 3 parts", "up", "up ",
                     "up  one", "up one ", " up one", "up one two", "up\tone", "up one\n", "up ONE", "up abcdefghi",
                     "hand inn inn", "hand inn", "hand inn mill hall", "settle inn inn 1/00", "settle inn mill 0/00",
                     "settle inn mill 1666666/41", "price inn cup 16666/41", "price inn cup 0/00", "price inn cup 127",
                     "price inn cup 02/07", "price inn cup 2/7", "price inn cup 1/67", "price inn cup -1/00",
                     "price inn cup 2/07 ", "price inn cup", "price inn cup None", "pay one", "pay one ann bob", "strike 1",
                     "undo", "state one 3", "0 up one", "x" * 200, "9" * 200, "price inn cup " + "9" * 180,
                     "up " + "a" * 197, " " * 200, ("('up', 'one')")):
            with self.subTest(repr(text)):
                self.assertIsNone(deed_in(text))


class BookTextTest(unittest.TestCase):
    def test_rows_by_days_then_numbers(self):
        book = book_with((5, "up", "one"), (0, "house", "inn", RULE), (5, "bring", "one"), (400, "up", "two"),
                         (0, "price", "inn", "cup", 127))
        text = f"0 house inn {RULE}\n0 price inn cup 2/07\n5 up one\n5 bring one\n400 up two"
        self.assertEqual(book_text(book), text)
        self.assertEqual(book_text(book=book), text)
        self.assertEqual(book_text(Book()), "")
        self.assertEqual(book_text(book_with((5, "up", "one"))), "5 up one")

    def test_round_about(self):
        chance = random.Random(6)
        for many in (0, 1, 5, 40, 100):
            book = book_with(*[(day, *deed) for day, deed in random_entries(chance, many)])
            again = book_of(book_text(book))
            self.assertEqual(again, book)
            self.assertEqual(told_of(again), told_of(book))
            self.assertEqual(book_text(again), book_text(book))


class BookOfTest(unittest.TestCase):
    def refused(self, text, row):
        for ask in (lambda: book_of(text), lambda: book_of(text=text)):
            with self.assertRaises(BadRow) as caught:
                ask()
            self.assertIs(type(caught.exception), BadRow)
            self.assertEqual(caught.exception.row, row)
            self.assertIs(type(caught.exception.row), int)
            self.assertIsInstance(caught.exception, WareError)

    def test_rows_in_their_order_days_in_any(self):
        book = book_of(text="\n".join(ROWS))
        self.assertIs(type(book), Book)
        self.assertEqual(len(book), len(ROWS))
        by_numbers = sorted((number, day, deed) for day, number, deed in book.entries())
        self.assertEqual(by_numbers, [(at, int(row.split(" ")[0]), TEXTS[at][0]) for at, row in enumerate(ROWS)])
        # The rows were entered, so they can be undone.
        for _ in ROWS:
            book.undo()
        self.assertEqual(book, Book())

    def test_rows_of_no_signs_are_passed_over(self):
        for text in ("", "\n", "\n\n\n"):
            self.assertEqual(book_of(text), Book())
        self.assertEqual(book_of("\n" + "\n\n".join(ROWS) + "\n\n"), book_of("\n".join(ROWS)))
        self.assertEqual(book_of("\n\n5 up one\n").entries(), [(5, 0, ("up", "one"))])

    def test_rows_that_are_not_so_written(self):
        for row in (" ", "x", "5", "5 ", "up one", " up one", "5  up one", " 5 up one", "5 up one ", "05 up one",
                    "00 up one", "401 up one", "1000 up one", "-1 up one", "+1 up one", "1.0 up one", "5 up", "5 strike 1",
                    "5 undo", "strike 0", "undo", "voids", "5 hand inn inn", "5 price inn cup 0/00", "5 house inn 3 parts",
                    "5 UP one", "9" * 190 + " up one", "5 up one;", "5\tup one"):
            with self.subTest(row):
                self.refused(row, 0)
                self.refused("\n" + row, 1)
                self.refused("\n".join(ROWS[:3] + ["", row] + ROWS[3:]), 4)
                self.refused("\n".join([row, row]), 0)

    def test_days_at_their_bounds(self):
        self.assertEqual(book_of("0 up one\n400 up one\n9 up one\n10 up one\n399 up one").entries(), [
            (0, 0, ("up", "one")), (9, 2, ("up", "one")), (10, 3, ("up", "one")), (399, 4, ("up", "one")),
            (400, 1, ("up", "one"))])

    def test_the_hundred_and_first_deed(self):
        rows = ["5 up one"] * 100
        self.assertEqual(len(book_of("\n".join(rows))), 100)
        self.assertEqual(len(book_of("\n" * 20 + "\n".join(rows) + "\n" * 20)), 100)
        self.refused("\n".join(rows + ["6 up one"]), 100)
        self.refused("\n".join([""] * 7 + rows[:50] + [""] * 3 + rows[50:] + ["", "6 up one", "x"]), 111)
        self.refused("\n".join(rows + ["", "x", "6 up one"]), 101)
        self.refused("\n".join(rows[:50] + ["x"] + rows), 50)


if __name__ == "__main__":
    unittest.main()
