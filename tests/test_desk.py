"""[17], and [2] of it: the desk."""

import random
import unittest

from books import tried
from slow_book import PEOPLE, WARES, random_entries

from partwares.book import Book
from partwares.desk import run
from partwares.errors import BadRow
from partwares.purses import most_paid
from partwares.texts import deed_text
from partwares.tills import sums_of
from partwares.words import pence_text

START = [
    ("0 house inn 3 parts by 7 days, grace 2, keep 0 10 50, falls 30, back 5", "-"),
    ("0 price inn cup 1/40", "-"),
    ("1 ware one cup inn", "one"),
]
ASKS = ("state one 5", "rows one", "stands 5", "waits inn cup 5", "sums 5", "voids", "last one 5", "most 5 ann 1/00")


class DeskTest(unittest.TestCase):
    def told(self, *pairs):
        """Each row is answered so."""
        text = "\n".join(row for row, _ in pairs)
        answers = [answer for _, answer in pairs]
        self.assertEqual(run(text), answers)
        self.assertEqual(run(text=text), answers)

    def refused(self, row_number, *rows):
        with self.assertRaises(BadRow) as caught:
            run("\n".join(rows))
        self.assertIs(type(caught.exception), BadRow)
        self.assertEqual(caught.exception.row, row_number)

    def test_no_rows(self):
        self.assertEqual(run(""), [])
        self.assertEqual(run("\n\n"), [])
        self.assertEqual(run("\n\nvoids\n\n"), ["-"])

    def test_deeds_strikes_and_undo(self):
        self.told(*START, ("1 ware two cup inn", "two"), ("0 pay one ann", "-"), ("2 put inn cup ann", "one"),
                  ("0 price inn cup 2/00", "one"), ("strike 0", "one two"), ("undo", "one two"), ("undo", "one"),
                  ("strike 1", "one"), ("strike 4", "-"), ("undo", "-"), ("undo", "one"), ("undo", "one"), ("undo", "-"),
                  ("undo", "two"), ("undo", "one"), ("undo", "-"), ("undo", "-"), ("undo", "no entry"),
                  ("strike 0", "no entry"), ("strike 999", "no entry"))

    def test_numbers_are_those_of_the_book(self):
        self.told(*START, ("strike 2", "one"), ("strike 2", "no entry"), ("1 ware one cup inn", "one"),
                  ("strike 3", "one"), ("undo", "one"), ("undo", "one"), ("undo", "one"), ("undo", "one"), ("undo", "-"))

    def test_state(self):
        self.told(*START, ("2 put inn cup ann", "one"), ("2 pay one ann", "one"), ("2 pay one bob", "one"),
                  ("3 pay one ann", "one"), ("state one 0", "no ware"), ("state one 1", "free"), ("state one 2", "put ann"),
                  ("state one 3", "sold ann"), ("state one 400", "sold ann"), ("state two 400", "no ware"))

    def test_rows(self):
        self.told(*START, ("rows one", "1 new inn 0/00"), ("2 put inn cup ann", "one"), ("2 pay one bob", "one"),
                  ("3 price inn cup 0/30", "one"), ("4 bring one", "one"), ("rows two", "no ware"),
                  ("rows one", "1 new inn 0/00 ; 2 put ann 1/40 ; 2 paid bob 0/34 ; 3 price ann 0/30 ; 3 sold ann 0/30 ; "
                   "3 back bob 0/04 ; 4 brought ann 0/30 ; 4 back bob 0/30"))

    def test_stands_and_last(self):
        self.told(*START, ("1 ware two cup inn", "two"), ("2 put inn cup ann", "one"), ("2 pay one ann", "one"),
                  ("399 put inn cup bob", "one"), ("stands 1", "-"), ("stands 2", "one ann 0/34 1/40 11"),
                  ("stands 400", "one bob 0/00 1/40 401"), ("2 put inn cup cat", "two"),
                  ("stands 2", "one ann 0/34 1/40 11 ; two cat 0/00 1/40 4"), ("last one 2", "11"), ("last two 2", "4"),
                  ("last two 5", "-"), ("last one 0", "no ware"), ("last one 1", "-"), ("last six 400", "no ware"),
                  ("last one 400", "401"))

    def test_waits(self):
        self.told(*START, ("2 put inn cup ann", "one"), ("2 put inn cup bob", "one"), ("2 put inn cup ann", "one"),
                  ("waits inn cup 1", "-"), ("waits inn cup 2", "bob ann"), ("waits inn cup 400", "-"),
                  ("waits inn jug 2", "-"), ("waits mill cup 2", "no house"), ("4 house mill 1 parts by 3 days", "-"),
                  ("waits mill cup 3", "no house"), ("waits mill cup 4", "-"))

    def test_sums_below_0_too(self):
        self.told(("sums 400", "-"), *START, ("0 house mill 1 parts by 3 days", "-"), ("sums 0", "inn 0/00 0/00 0/00 0/00 0/00"
                  " ; mill 0/00 0/00 0/00 0/00 0/00"), ("2 put inn cup ann", "one"), ("2 pay one ann", "one"),
                  ("2 pay one ann", "one"), ("3 hand inn mill", "one"), ("4 up one", "one"),
                  ("sums 2", "inn 1/07 1/07 0/00 0/00 0/00 ; mill 0/00 0/00 0/00 0/00 0/00"),
                  ("sums 3", "inn 1/07 0/00 0/00 0/00 1/07 ; mill 0/00 1/07 0/00 1/07 0/00"),
                  ("sums 400", "inn 1/07 0/00 0/00 0/00 1/07 ; mill -0/33 0/00 0/34 1/07 0/00"))

    def test_a_sum_of_more_than_a_crown_below_0(self):
        self.told(*START, ("0 house mill 1 parts by 3 days", "-"), ("2 put inn cup ann", "one"), ("2 pay one ann", "one"),
                  ("2 pay one ann", "one"), ("2 pay one ann", "one"), ("3 hand inn mill", "one"), ("4 bring one", "one"),
                  ("sums 4", "inn 1/40 0/00 0/00 0/00 1/40 ; mill -1/40 0/00 0/00 1/40 0/00"))

    def test_voids(self):
        self.told(("voids", "-"), *START, ("0 pay one ann", "-"), ("1 ware one cup inn", "-"), ("5 bring one", "-"),
                  ("voids", "3 none ; 4 taken ; 5 idle"), ("strike 2", "-"), ("voids", "3 none ; 5 idle"))

    def test_most(self):
        wares = [(f"1 ware {name} cup inn", name) for name in ("wc", "wb", "wa")]
        puts = [("2 put inn cup ann", "wa"), ("2 put inn cup ann", "wb"), ("2 put inn cup bob", "wc")]
        self.told(*START[:2], *wares, *puts, ("most 1 ann 9/00", "-"), ("most 2 cat 9/00", "-"), ("most 2 ann 0/33", "-"),
                  ("most 2 ann 0/34", "wa"), ("most 2 ann 1/07", "wa"), ("most 2 ann 1/08", "wa wb"),
                  ("most 2 bob 0/34", "wc"), ("2 pay wa ann", "wa"), ("most 2 ann 0/33", "wa"), ("most 2 ann 0/34", "wa"),
                  ("2 pay wb ann", "wb"), ("most 2 ann 1/05", "wa"),
                  ("most 2 ann 1/06", "wa wb"), ("most 2 ann 0/00", "-"), ("most 400 ann 9/00", "-"))

    def test_most_leaves_parts_of_no_pence_aside(self):
        self.told(START[0], ("0 price inn cup 0/01", "-"), START[2], ("1 ware two cup inn", "two"),
                  ("2 put inn cup ann", "one"), ("2 put inn cup ann", "two"), ("most 2 ann 0/02", "one two"),
                  ("2 pay one ann", "one"), ("most 2 ann 0/02", "two"), ("most 2 ann 0/00", "-"),
                  ("2 pay two ann", "two"), ("most 2 ann 9/00", "-"))

    def test_rows_of_other_forms(self):
        for row in (" ", "x", "strike", "strike ", "strike x", "strike -1", "strike 00", "strike 01", "strike 1000",
                    "strike 1 2", " strike 1", "strike 1 ", "strike  1", "Strike 1", "undo 1", "undo ", "Undo", "redo",
                    "state", "state one", "state one 401", "state one 05", "state one x", "state ONE 5", "state  5",
                    "state one 5 5", "state abcdefghi 5", "rows", "rows one 5", "rows ", "rows 5", "stands", "stands 401",
                    "stands one", "stands 5 ", "waits inn cup", "waits inn 5", "waits inn cup 401", "waits inn cup 5 5",
                    "sums", "sums 401", "sums x", "voids 5", "voids ", "last one", "last 5", "last one 401", "most 5 ann",
                    "most 5 ann 1", "most 5 ann 1/60", "most 5 ann 01/00", "most 401 ann 1/00", "most 5 5 1/00",
                    "most 5 ann 1/00 x", "most 5 ann -1/00", "most 5 ann " + "9" * 20 + "/00", "enter 5 up one", "up one",
                    "5 strike 1", "5 undo", "401 up one", "5 up", "fate one", "house_of one 5", "len", "-", ";"):
            with self.subTest(row):
                self.refused(0, row)
                self.refused(3, "", "undo", "strike 7", row, "x")
                self.refused(9, *ASKS, "5 up one", row)

    def test_sums_of_a_purse_at_their_bounds(self):
        self.told(("most 0 ann 0/00", "-"), ("most 400 ann 16666666/40", "-"))
        self.refused(0, "most 0 ann 16666666/41")

    def test_each_row_of_a_deed_counts_a_struck_one_s_and_an_undone_one_s_too(self):
        rows = ["5 up one"] * 99 + ["strike 3", "undo", "undo", "", "5 up one"]
        self.assertEqual(len(run("\n".join(rows))), 103)
        self.refused(104, *rows, "5 up one")
        self.refused(105, *rows, "voids", "5 up one", "x")
        self.refused(105, *rows, "voids", "x", "5 up one")

    def test_a_book_at_random_asked_by_rows_and_by_methods(self):
        chance = random.Random(17)
        for _ in range(8):
            book, rows, answers = Book(), [], []
            for day, deed in random_entries(chance, 40):
                rows.append(f"{day} {deed_text(deed)}")
                answers.append(" ".join(book.enter(day, deed)[1]) or "-")
            for _ in range(40):
                day, ware, who = chance.randint(0, 45), chance.choice(WARES), chance.choice(PEOPLE)
                row, answer = chance.choice((self.state_of, self.last_of, self.stands_of, self.sums_row, self.most_of))(
                    book, day, ware, who, chance)
                rows.append(row)
                answers.append(answer)
            self.assertEqual(run("\n".join(rows)), answers)

    @staticmethod
    def state_of(book, day, ware, who, chance):
        told = tried(book.state, ware, day)
        return f"state {ware} {day}", "no ware" if told == "NoWare" else " ".join(told).strip()

    @staticmethod
    def last_of(book, day, ware, who, chance):
        lasts = [str(row[4]) for row in book.stands(day) if row[0] == ware]
        there = tried(book.house_of, ware, day) != "NoWare"
        return f"last {ware} {day}", lasts[0] if lasts else "-" if there else "no ware"

    @staticmethod
    def stands_of(book, day, ware, who, chance):
        rows = [f"{name} {of} {pence_text(paid)} {pence_text(price)} {last}"
                for name, of, paid, price, last in book.stands(day)]
        return f"stands {day}", " ; ".join(rows) or "-"

    @staticmethod
    def sums_row(book, day, ware, who, chance):
        rows = [" ".join([house] + [("-" if pence < 0 else "") + pence_text(abs(pence)) for pence in sums])
                for house, *sums in sums_of(book, day)]
        return f"sums {day}", " ; ".join(rows) or "-"

    @staticmethod
    def most_of(book, day, ware, who, chance):
        # The pence of a next part are those that a payment behind all others of that day would be.
        wants = []
        for name, of, _, _, last in book.stands(day):
            twin = book.twin()
            if of == who:
                twin.enter(day, ("pay", name, who))
                rows = [row for row in twin.rows(name) if row[:2] == (day, "paid")]
                wants += [(name, rows[-1][3], last)] if rows[-1][3] > 0 else []
        pence = chance.randint(0, 90)
        return f"most {day} {who} {pence_text(pence)}", " ".join(most_paid(wants, [(day, pence)])) or "-"

    def test_the_same_text_is_answered_the_same_by_lists_of_one_s_own(self):
        text = "\n".join([row for row, _ in START] + list(ASKS))
        one, other = run(text), run(text)
        self.assertEqual(one, other)
        self.assertIsNot(one, other)
        self.assertEqual({type(answer) for answer in one}, {str})
        one.clear()
        self.assertEqual(run(text), other)


if __name__ == "__main__":
    unittest.main()
