"""[1] over the whole program: books at random, held against a walk through their days, and the eight promises."""

import random
import unittest

from books import book_with, tried
from slow_book import HOUSES, KINDS, LAST, WARES, SlowBook, random_entries

from partwares.book import Book
from partwares.putbys import Putby
from partwares.ruletexts import read_rule
from partwares.tills import owed_by, parting, people_of, sums_of, till_of

DAYS = (0, 1, 2, 4, 7, 11, 18, 29, 47, 399, 400)


def random_books(seed, many):
    """Books at random, of few deeds and of many, some with a hundred."""
    chance = random.Random(seed)
    for at in range(many):
        yield chance, book_with(*[(day, *deed) for day, deed in random_entries(chance, (20, 40, 100)[at % 3])])


class WalkTest(unittest.TestCase):
    def alike(self, book):
        """The book tells what a walk through its days does."""
        slow = SlowBook(book.entries(), LAST)
        self.assertEqual(book.voids(), slow.words)
        self.assertEqual(repr(book), f"Book({len(book)} entries, {len(slow.wares)} wares)")
        for ware in WARES:
            there = ware in slow.wares
            self.assertEqual(tried(book.rows, ware), slow.wares[ware]["rows"] if there else "NoWare")
            self.assertEqual(tried(book.fate, ware), slow.fate(ware) if there else "NoWare")
        for day in DAYS:
            self.alike_on(book, day, SlowBook(book.entries(), day))
        return slow

    def alike_on(self, book, day, slow):
        self.assertEqual(book.stands(day), slow.stands())
        self.assertEqual(sums_of(book, day), slow.sums())
        self.assertEqual(people_of(book, day), slow.people())
        for house in HOUSES:
            there = house in slow.rules
            self.assertEqual(tried(till_of, book, house, day), slow.till(house) if there else "NoHouse")
            for kind in KINDS:
                self.assertEqual(tried(book.waits, house, kind, day), slow.waits(house, kind) if there else "NoHouse")
            for other in HOUSES:
                both = there and other in slow.rules
                self.assertEqual(tried(owed_by, book, house, other, day), slow.owed(house, other) if both else "NoHouse")
        for ware in WARES:
            there = ware in slow.wares
            self.assertEqual(tried(book.state, ware, day), slow.state(ware) if there else "NoWare")
            self.assertEqual(tried(book.house_of, ware, day), slow.wares[ware]["house"] if there else "NoWare")

    def test_books_at_random(self):
        words, voids = {}, set()
        for _, book in random_books(1, 36):
            slow = self.alike(book)
            voids |= {word for _, word in slow.words}
            for ware in slow.wares.values():
                for row in ware["rows"]:
                    words[row[1]] = words.get(row[1], 0) + 1
        # Each word was there.
        self.assertEqual(voids, {"taken", "none", "shut", "idle", "late", "much"})
        for word in ("new", "put", "paid", "price", "sold", "gone", "up", "back", "brought", "handed"):
            self.assertGreater(words.get(word, 0), 2, word)

    def test_books_at_random_with_entries_told_late_and_struck(self):
        for chance, book in random_books(2, 12):
            for _, number, _ in chance.sample(book.entries(), 4):
                book.strike(number)
            for day, deed in random_entries(chance, 4):
                book.enter(min(400, day + chance.randint(0, 20)), deed)
            self.alike(book)


class PromisesTest(unittest.TestCase):
    def test_each_ware_is_free_put_by_for_one_or_sold_by_the_end_of_each_day(self):
        for _, book in random_books(3, 6):
            for day in range(60):
                stands = {row[0]: row[1] for row in book.stands(day)}
                for ware in WARES:
                    told = tried(book.state, ware, day)
                    if told != "NoWare":
                        word, who = told
                        self.assertIn(word, ("free", "put", "sold"))
                        self.assertIs(who == "", word == "free")
                        self.assertEqual(stands.get(ware), who if word == "put" else None)

    def test_what_was_paid_is_the_house_s_kept_or_paid_back_to_those_who_paid(self):
        for _, book in random_books(4, 12):
            for ware in WARES:
                self.pence_of(tried(book.rows, ware))

    def pence_of(self, rows):
        """Since each put: what was paid is there, is the price, or is kept and paid back, to those who paid."""
        paid, back, kept = {}, {}, 0
        for at, (day, word, name, pence) in enumerate(rows if rows != "NoWare" else []):
            if word == "put":
                paid, back = {}, {}
            elif word == "paid":
                paid[name] = paid.get(name, 0) + pence
            elif word in ("sold", "gone", "up", "brought"):
                kept = 0 if word == "brought" else pence
            elif word == "back":
                back[name] = back.get(name, 0) + pence
                self.assertLessEqual(back[name], paid[name])
            behind = rows[at + 1][1] if at + 1 < len(rows) else ""
            if word in ("sold", "gone", "up", "brought", "back") and behind != "back":
                self.assertEqual(sum(paid.values()), kept + sum(back.values()))

    def test_a_ware_is_let_go_just_on_its_day_and_who_waits_has_it_next(self):
        gone = 0
        for _, book in random_books(5, 8):
            for day in range(1, 60):
                for ware, who, _, _, last in book.stands(day - 1):
                    rows = [row for row in book.rows(ware) if row[:3] == (day, "gone", who)]
                    self.assertIs(len(rows) > 0, last == day - 1)
                    gone += len(rows)
                for house in sorted({tried(book.house_of, ware, day) for ware in WARES} - {"NoWare"}):
                    for ware in WARES:
                        # A free ware and one who waits for it aren't there side by side.
                        if tried(book.state, ware, day) == ("free", "") and book.house_of(ware, day) == house:
                            kinds = [deed[2] for _, _, deed in book.entries() if deed[:2] == ("ware", ware)]
                            if len(set(kinds)) == 1:
                                self.assertEqual(book.waits(house, kinds[0], day), [])
        self.assertGreater(gone, 10)

    def test_a_fallen_price_falls_to_those_whom_the_rule_names_and_to_no_others(self):
        fell = 0
        for _, book in random_books(6, 12):
            numbers = dict(book.voids())
            rules = {deed[1]: read_rule(deed[2]) for _, number, deed in book.entries()
                     if deed[0] == "house" and number not in numbers}
            for ware in WARES:
                house, begin, rule, price = None, None, None, None
                for day, word, name, pence in tried(book.rows, ware) if tried(book.rows, ware) != "NoWare" else []:
                    if word in ("new", "handed"):
                        house = name
                    elif word == "put":
                        begin, rule, price = day, rules[house], pence
                    elif word == "price":
                        self.assertLessEqual(day, begin + rule.figures()[7])
                        self.assertLess(pence, price)
                        self.assertTrue([1 for told, number, deed in book.entries() if told == day
                                         and deed[:2] == ("price", house) and deed[3] == pence])
                        price, fell = pence, fell + 1
        self.assertGreater(fell, 2)

    def test_a_turn_tells_the_wares_whose_rows_move_and_moves_no_others(self):
        for chance, book in random_books(7, 6):
            for _ in range(15):
                ahead = book.twin()
                turn = chance.choice(("enter", "strike", "undo"))
                if turn == "enter":
                    wares = book.enter(chance.randint(0, 30), random_entries(chance, 10)[-1][1])[1]
                elif turn == "strike":
                    wares = book.strike(chance.choice(book.entries())[1])
                else:
                    wares = book.undo()
                moved = [ware for ware in sorted(WARES) if tried(book.rows, ware) != tried(ahead.rows, ware)]
                self.assertEqual(wares, moved)
                self.assertEqual((parting(book, ahead), parting(ahead, book)), (moved, moved))

    def test_the_last_day_on_which_a_part_may_be_paid_is_told(self):
        tried_out = 0
        for _, book in random_books(8, 6):
            for day in range(0, 30, 3):
                for ware, who, _, _, last in book.stands(day):
                    # Nothing else is done any more behind that day.
                    other = Book()
                    for told, _, deed in book.entries():
                        if told <= day:
                            other.enter(told, deed)
                    for on, right in ((last, False), (last + 1, True)):
                        if on <= 400:
                            twin = other.twin()
                            number, _ = twin.enter(on, ("pay", ware, "eve"))
                            paid = (on, "paid", "eve") in [row[:3] for row in twin.rows(ware)]
                            gone = (last + 1, "gone", who) in [row[:3] for row in twin.rows(ware) if row[0] <= on]
                            self.assertEqual((gone, paid or right), (right, True))
                            tried_out += 1
        self.assertGreater(tried_out, 40)

    def test_till_and_owed_less_owes_are_paid_and_earned(self):
        owed_some = 0
        for _, book in random_books(9, 12):
            for day in list(range(60)) + [400]:
                for _, till, paid, earned, owed, owes in sums_of(book, day):
                    self.assertEqual(till + owed - owes, paid + earned)
                    owed_some += owed > 0
                # All that is in tills is what people paid less what was paid back to them.
                people = people_of(book, day)
                self.assertEqual(sum(row[1] for row in sums_of(book, day)), sum(row[1] - row[2] for row in people))
        self.assertGreater(owed_some, 50)

    def test_a_ware_of_a_book_goes_as_a_putby_does(self):
        for text in ("3 parts by 7 days, grace 2, keep 0 10 50, fine 5, falls 10, back 5", "4 parts by 3 days, from last, "
                     "misses 1, keep 33, falls 30", "2 parts by 14 days, grace 7, misses 2, keep 100 0, fine 100"):
            chance = random.Random(text)
            for _ in range(30):
                putby = Putby(read_rule(text), 101, 2)
                book = book_with((0, "house", "inn", text), (0, "price", "inn", "cup", 101), (0, "ware", "one", "cup", "inn"),
                                 (2, "put", "inn", "cup", "ann"))
                day = 2
                while putby.state()[0] == "stands":
                    day += chance.choice((0, 1, 3, 8))
                    putby.pass_to(day)
                    if putby.state()[0] == "stands":
                        word = chance.choice(("pay", "pay", "pay", "up", "price"))
                        pence = chance.randint(1, putby.price())
                        self.do(putby, book, day, word, pence)
                word, on = putby.state()
                rows = [(on, word, "ann", putby.kept())] + [(told, "back", who, back) for told, who, back in putby.backs()]
                self.assertEqual(book.rows("one")[-len(rows):], rows)
                self.assertEqual([row[2:] for row in book.rows("one") if row[1] == "paid"],
                                 [row[1:] for row in putby.payments()])

    @staticmethod
    def do(putby, book, day, word, pence):
        if word == "pay":
            putby.pay(day, "bob")
            book.enter(day, ("pay", "one", "bob"))
        elif word == "up":
            putby.give_up(day)
            book.enter(day, ("up", "one"))
        else:
            # A price that rises ahead of it lets each one fall.
            book.enter(day, ("price", "inn", "cup", 10 ** 6))
            book.enter(day, ("price", "inn", "cup", pence))
            putby.price_falls(day, pence)


if __name__ == "__main__":
    unittest.main()
