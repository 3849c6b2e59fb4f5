"""[11], [12] and [1] of a book: what each deed does, by which word it is void, and what comes of mornings."""

import itertools
import unittest

from books import BookTest, book_with

from partwares.putbys import Putby
from partwares.ruletexts import read_rule
from partwares.tills import owed_by, people_of, sums_of, till_of

INN = (0, "house", "inn", "3 parts by 7 days, grace 2, keep 0 10 50, fine 5, falls 10, back 5")
MILL = (0, "house", "mill", "2 parts by 3 days")
HALL = (0, "house", "hall", "1 parts by 5 days, back 30")
CUP = (0, "price", "inn", "cup", 90)
ONE = (0, "ware", "one", "cup", "inn")
TWO = (0, "ware", "two", "cup", "inn")
PUT = (0, "put", "inn", "cup", "ann")
PAY = (0, "pay", "one", "ann")
START = (INN, CUP, ONE)


class HouseTest(BookTest):
    def test_a_house_is_there_and_has_nothing(self):
        book = book_with((3, *INN[1:]))
        self.assertEqual(book.voids(), [])
        self.assertEqual((book.waits("inn", "cup"), till_of(book, "inn")), ([], 0))
        self.assertEqual(sums_of(book), [("inn", 0, 0, 0, 0, 0)])
        self.assertEqual(sums_of(book, 2), [])

    def test_taken(self):
        self.voids(INN, INN, word="taken")
        self.voids(INN, (5, "house", "inn", "1 parts by 1 days"), word="taken")
        self.voids(INN, MILL, (1, "hand", "inn", "mill"), (2, *INN[1:]), word="taken")

    def test_the_first_rule_stays(self):
        book = book_with(INN, CUP, ONE, (1, "house", "inn", "1 parts by 1 days"), (1, "put", "inn", "cup", "ann"))
        self.assertEqual(book.rows("one")[-1], (4, "gone", "ann", 0))


class PriceTest(BookTest):
    def test_none_and_shut(self):
        self.voids(CUP, word="none")
        self.voids(MILL, CUP, word="none")
        self.voids(INN, MILL, (1, "hand", "inn", "mill"), (2, *CUP[1:]), word="shut")

    def test_a_price_from_its_deed_on(self):
        book = book_with(INN, CUP, ONE, TWO, (1, "put", "inn", "cup", "ann"), (1, "price", "inn", "cup", 100),
                         (1, "put", "inn", "cup", "bob"))
        self.rows(book, "one", (0, "new", "inn", 0), (1, "put", "ann", 90), (4, "gone", "ann", 0))
        self.rows(book, "two", (0, "new", "inn", 0), (1, "put", "bob", 100), (4, "gone", "bob", 0))

    def test_it_falls_to_each_ware_of_the_kind_put_by_there_within_falls_days(self):
        book = book_with(
            INN, MILL, CUP, (0, "price", "inn", "jug", 90), (0, "price", "mill", "cup", 90), ONE, TWO,
            (0, "ware", "six", "cup", "inn"), (0, "ware", "jug", "jug", "inn"), (0, "ware", "far", "cup", "mill"),
            (0, "put", "inn", "cup", "ann"), (0, "put", "inn", "jug", "ann"), (0, "put", "mill", "cup", "ann"),
            (0, "put", "inn", "cup", "bob"),
            (0, "pay", "one", "ann"), (0, "pay", "jug", "ann"), (0, "pay", "far", "ann"), (1, "price", "inn", "cup", 60),
        )
        self.rows(book, "one", (0, "new", "inn", 0), (0, "put", "ann", 90), (0, "paid", "ann", 30),
                  (1, "price", "ann", 60), (10, "gone", "ann", 5), (10, "back", "ann", 25))
        self.rows(book, "six", (0, "new", "inn", 0), (0, "put", "bob", 90), (1, "price", "bob", 60), (3, "gone", "bob", 0))
        for ware in ("two", "jug", "far"):
            self.assertNotIn("price", [row[1] for row in book.rows(ware)])
        self.assertEqual(book.stands(1), [("far", "ann", 45, 90, 3), ("jug", "ann", 30, 90, 9), ("one", "ann", 30, 60, 9),
                                          ("six", "bob", 0, 60, 2)])

    def test_within_falls_days_on_the_last_of_them_and_a_day_later(self):
        for begin, day, falls in ((0, 0, True), (0, 9, True), (0, 10, True), (0, 11, False), (5, 15, True),
                                  (5, 16, False)):
            book = book_with((0, "house", "inn", "2 parts by 14 days, grace 7, misses 1, falls 10"), CUP, ONE,
                             (begin, "put", "inn", "cup", "ann"), (day, "price", "inn", "cup", 89))
            self.assertIs((day, "price", "ann", 89) in book.rows("one"), falls, (begin, day))

    def test_by_the_rule_by_which_it_was_put_by(self):
        # mill's rule has no falls days; what it was handed keeps inn's.
        book = book_with(*START, MILL, PUT, PAY, (2, "hand", "inn", "mill"), (3, "price", "mill", "cup", 80))
        self.assertIn((3, "price", "ann", 80), book.rows("one"))
        book = book_with(*START, MILL, (0, "price", "mill", "cup", 90), (2, "hand", "inn", "mill"),
                         (2, "put", "mill", "cup", "ann"), (3, "price", "mill", "cup", 80))
        self.assertNotIn("price", [row[1] for row in book.rows("one")])

    def test_as_much_or_more_a_price_that_rises_and_the_first_one_fall_to_none(self):
        for price in (90, 91):
            book = book_with(*START, PUT, (1, "price", "inn", "cup", price))
            self.assertNotIn("price", [row[1] for row in book.rows("one")])
        # The price there isn't less, so that it falls to none, though it's below that of the ware, which came from inn.
        for price in (50, 60):
            book = book_with(*START, MILL, (0, "price", "mill", "cup", 50), PUT, (1, "hand", "inn", "mill"),
                             (1, "price", "mill", "cup", price))
            self.assertNotIn("price", [row[1] for row in book.rows("one")])
        book = book_with(*START, MILL, (0, "price", "mill", "cup", 50), PUT, (1, "hand", "inn", "mill"),
                         (1, "price", "mill", "cup", 49))
        self.assertIn((1, "price", "ann", 49), book.rows("one"))

    def test_sold_by_it_and_what_is_paid_more_is_paid_back(self):
        for price, backs in ((30, []), (29, [(1, "back", "bob", 1)]), (1, [(1, "back", "bob", 29)])):
            book = book_with(*START, PUT, (0, "pay", "one", "bob"), (1, "price", "inn", "cup", price))
            self.rows(book, "one", (0, "new", "inn", 0), (0, "put", "ann", 90), (0, "paid", "bob", 30),
                      (1, "price", "ann", price), (1, "sold", "ann", price), *backs)
            self.assertEqual(sums_of(book), [("inn", price, 0, price, 0, 0)])
            self.balanced(book)

    def test_sold_by_it_leaves_those_who_wait_waiting(self):
        book = book_with(*START, PUT, PAY, (0, "put", "inn", "cup", "bob"), (1, "price", "inn", "cup", 30))
        self.assertEqual((book.state("one"), book.waits("inn", "cup")), (("sold", "ann"), ["bob"]))


class WareTest(BookTest):
    def test_taken_none_and_shut_the_first_one_due(self):
        self.voids(INN, ONE, ONE, word="taken")
        self.voids(INN, ONE, (0, "ware", "one", "jug", "inn"), word="taken")
        self.voids(INN, ONE, (0, "ware", "one", "cup", "hall"), word="taken")
        self.voids(INN, MILL, ONE, (1, "hand", "inn", "mill"), (2, *ONE[1:]), word="taken")
        self.voids(ONE, word="none")
        self.voids(INN, MILL, (1, "hand", "inn", "mill"), (1, *ONE[1:]), word="shut")

    def test_a_new_one_is_put_by_at_once_for_the_first_who_waits(self):
        book = book_with(INN, CUP, (1, *PUT[1:]), (1, "put", "inn", "cup", "bob"), (2, "price", "inn", "cup", 70),
                         (3, *ONE[1:]))
        self.rows(book, "one", (3, "new", "inn", 0), (3, "put", "ann", 70), (6, "gone", "ann", 0), (6, "put", "bob", 70),
                  (9, "gone", "bob", 0))
        self.assertEqual([book.waits("inn", "cup", day) for day in (0, 2, 3, 5, 6)],
                         [[], ["ann", "bob"], ["bob"], ["bob"], []])

    def test_one_of_another_kind_or_in_another_house_is_not(self):
        book = book_with(INN, MILL, CUP, (1, *PUT[1:]), (2, "ware", "jug", "jug", "inn"), (2, "ware", "far", "cup", "mill"))
        self.assertEqual((book.state("jug"), book.state("far")), (("free", ""), ("free", "")))
        self.assertEqual(book.waits("inn", "cup"), ["ann"])


class PutTest(BookTest):
    def test_none_shut_and_none_the_first_one_due(self):
        self.voids(PUT, word="none")
        self.voids(INN, PUT, word="none")
        self.voids(INN, ONE, PUT, word="none")
        self.voids(INN, CUP, (0, "put", "inn", "jug", "ann"), word="none")
        self.voids(INN, MILL, (1, "hand", "inn", "mill"), (2, *PUT[1:]), word="shut")
        self.voids(INN, MILL, CUP, (1, "hand", "inn", "mill"), (2, *PUT[1:]), word="shut")

    def test_the_free_ware_with_the_least_name(self):
        wares = [(0, "ware", name, "cup", "inn") for name in ("two", "b", "ab", "one")]
        wares += [(0, "ware", "a", "jug", "inn"), (0, "ware", "aa", "cup", "mill")]
        puts = [(1, "put", "inn", "cup", who) for who in ("ann", "bob", "ann", "cat", "dan", "ann")]
        book = book_with(INN, MILL, CUP, *wares, *puts)
        self.assertEqual([(row[0], row[1]) for row in book.stands(1)],
                         [("ab", "ann"), ("b", "bob"), ("one", "ann"), ("two", "cat")])
        self.assertEqual(book.waits("inn", "cup", 1), ["dan", "ann"])
        self.assertEqual(book.voids(), [])

    def test_by_the_house_s_rule_at_the_price_then_on_that_day(self):
        book = book_with(INN, MILL, CUP, (0, "price", "mill", "cup", 50), ONE, (0, "ware", "two", "cup", "mill"),
                         (4, *PUT[1:]), (4, "put", "mill", "cup", "bob"))
        self.assertEqual(book.stands(4), [("one", "ann", 0, 90, 6), ("two", "bob", 0, 50, 4)])

    def test_waiting_twice_and_having_it_anew(self):
        book = book_with(*START, PUT, PUT, PUT)
        self.assertEqual(book.waits("inn", "cup", 0), ["ann", "ann"])
        self.rows(book, "one", (0, "new", "inn", 0), (0, "put", "ann", 90), (3, "gone", "ann", 0), (3, "put", "ann", 90),
                  (6, "gone", "ann", 0), (6, "put", "ann", 90), (9, "gone", "ann", 0))


class PayTest(BookTest):
    def test_none_and_idle(self):
        self.voids(PAY, word="none")
        self.voids(*START, PAY, word="idle")
        self.voids(*START, PUT, (3, *PAY[1:]), word="idle")
        self.voids(*START, PUT, PAY, PAY, PAY, PAY, word="idle")
        self.voids(*START, PUT, (0, "up", "one"), PAY, word="idle")

    def test_parts_to_the_end_by_several_payers(self):
        book = book_with(INN, (0, "price", "inn", "cup", 100), ONE, PUT, PAY, (9, "pay", "one", "bob"),
                         (16, "pay", "one", "cat"))
        self.rows(book, "one", (0, "new", "inn", 0), (0, "put", "ann", 100), (0, "paid", "ann", 34),
                  (9, "paid", "bob", 33), (16, "paid", "cat", 33), (16, "sold", "ann", 100))
        self.assertEqual([till_of(book, "inn", day) for day in (0, 8, 9, 16)], [34, 34, 67, 100])
        self.assertEqual(people_of(book), [("ann", 34, 0), ("bob", 33, 0), ("cat", 33, 0)])
        self.balanced(book)

    def test_a_day_later_it_is_gone_ahead_of_the_day_s_entries(self):
        book = book_with(*START, PUT, PAY, (10, *PAY[1:]))
        self.assertEqual(book.voids(), [(5, "idle")])
        self.assertEqual(book.rows("one")[3:], [(10, "gone", "ann", 5), (10, "back", "ann", 25)])

    def test_parts_of_no_pence(self):
        book = book_with(INN, (0, "price", "inn", "cup", 1), ONE, PUT, PAY, (1, "pay", "one", "bob"),
                         (2, "pay", "one", "bob"))
        self.assertEqual(book.rows("one")[2:], [(0, "paid", "ann", 1), (1, "paid", "bob", 0), (2, "paid", "bob", 0),
                                                (2, "sold", "ann", 1)])
        self.assertEqual(people_of(book), [("ann", 1, 0), ("bob", 0, 0)])


class UpTest(BookTest):
    UP = (1, "up", "one")

    def test_none_and_idle(self):
        self.voids(self.UP, word="none")
        self.voids(*START, self.UP, word="idle")
        self.voids(*START, PUT, self.UP, self.UP, word="idle")
        self.voids(*START, PUT, (3, "up", "one"), word="idle")
        self.voids(*START, PUT, PAY, PAY, PAY, self.UP, word="idle")

    def test_kept_and_paid_back_the_last_payment_first(self):
        book = book_with(*START, PUT, PAY, (0, "pay", "one", "bob"), self.UP)
        self.assertEqual(book.rows("one")[4:], [(1, "up", "ann", 30), (1, "back", "bob", 30)])
        self.assertEqual(sums_of(book), [("inn", 30, 0, 30, 0, 0)])
        self.assertEqual(people_of(book), [("ann", 30, 0), ("bob", 30, 30)])
        self.balanced(book)

    def test_who_waits_has_it_at_once_at_the_price_then(self):
        book = book_with(*START, PUT, (0, "put", "inn", "cup", "bob"), (0, "price", "inn", "cup", 200), self.UP,
                         (1, "pay", "one", "bob"))
        self.assertEqual(book.rows("one")[1:5], [(0, "put", "ann", 90), (1, "up", "ann", 0), (1, "put", "bob", 200),
                                                 (1, "paid", "bob", 67)])
        self.assertEqual(book.voids(), [])


class LeaveTest(BookTest):
    LEAVE = (1, "leave", "inn", "cup", "ann")

    def test_none(self):
        self.voids(self.LEAVE, word="none")
        self.voids(INN, self.LEAVE, word="none")
        self.voids(*START, PUT, self.LEAVE, word="none")
        self.voids(*START, PUT, PUT, (1, "leave", "inn", "jug", "ann"), word="none")
        self.voids(*START, PUT, PUT, (1, "leave", "inn", "cup", "bob"), word="none")
        self.voids(INN, MILL, CUP, PUT, (1, "leave", "mill", "cup", "ann"), word="none")
        self.voids(INN, MILL, CUP, PUT, (0, "hand", "inn", "mill"), self.LEAVE, word="none")

    def test_the_first_place(self):
        puts = [(0, "put", "inn", "cup", who) for who in ("bob", "ann", "cat", "ann")]
        book = book_with(INN, CUP, *puts, self.LEAVE)
        self.assertEqual((book.waits("inn", "cup", 0), book.waits("inn", "cup")),
                         (["bob", "ann", "cat", "ann"], ["bob", "cat", "ann"]))
        book = book_with(INN, CUP, *puts, self.LEAVE, self.LEAVE, self.LEAVE)
        self.assertEqual(book.waits("inn", "cup"), ["bob", "cat"])
        self.assertEqual(book.voids(), [(8, "none")])

    def test_of_the_house_it_was_handed_to(self):
        book = book_with(INN, MILL, CUP, PUT, (0, "hand", "inn", "mill"), (1, "leave", "mill", "cup", "ann"))
        self.assertEqual((book.voids(), book.waits("mill", "cup", 0), book.waits("mill", "cup")), ([], ["ann"], []))


class BringTest(BookTest):
    SOLD = (*START, PUT, PAY, (1, "pay", "one", "bob"), (2, "pay", "one", "ann"))

    def test_none_idle_and_late(self):
        self.voids((1, "bring", "one"), word="none")
        self.voids(*START, (1, "bring", "one"), word="idle")
        self.voids(*START, PUT, (1, "bring", "one"), word="idle")
        self.voids(*self.SOLD, (2, "bring", "one"), (2, "bring", "one"), word="idle")
        self.voids(*self.SOLD, (8, "bring", "one"), word="late")
        self.assertEqual(book_with(*self.SOLD, (7, "bring", "one")).voids(), [])

    def test_all_is_paid_back_the_last_payment_first(self):
        book = book_with(*self.SOLD, (7, "bring", "one"))
        self.assertEqual(book.rows("one")[5:], [
            (2, "sold", "ann", 90), (7, "brought", "ann", 90), (7, "back", "ann", 30), (7, "back", "bob", 30),
            (7, "back", "ann", 30)])
        self.assertEqual((sums_of(book, 6), sums_of(book)), ([("inn", 90, 0, 90, 0, 0)], [("inn", 0, 0, 0, 0, 0)]))
        self.assertEqual(people_of(book), [("ann", 60, 60), ("bob", 30, 30)])
        self.assertEqual(book.state("one"), ("free", ""))

    def test_what_was_paid_back_already_is_not_again(self):
        book = book_with(*START, PUT, PAY, (1, "pay", "one", "bob"), (1, "price", "inn", "cup", 40), (2, "bring", "one"))
        self.assertEqual(book.rows("one")[4:], [
            (1, "price", "ann", 40), (1, "sold", "ann", 40), (1, "back", "bob", 20), (2, "brought", "ann", 40),
            (2, "back", "bob", 10), (2, "back", "ann", 30)])
        book = book_with(*START, PUT, PAY, (1, "pay", "one", "bob"), (1, "price", "inn", "cup", 30), (2, "bring", "one"))
        self.assertEqual(book.rows("one")[5:], [
            (1, "sold", "ann", 30), (1, "back", "bob", 30), (2, "brought", "ann", 30), (2, "back", "ann", 30)])
        self.balanced(book)

    def test_payments_of_no_pence_are_not_paid_back(self):
        book = book_with(INN, (0, "price", "inn", "cup", 1), ONE, PUT, PAY, PAY, PAY, (1, "bring", "one"))
        self.assertEqual(book.rows("one")[5:], [(0, "sold", "ann", 1), (1, "brought", "ann", 1), (1, "back", "ann", 1)])

    def test_who_waits_has_it_at_once(self):
        book = book_with(*self.SOLD, (3, "put", "inn", "cup", "cat"), (4, "bring", "one"))
        self.assertEqual((book.waits("inn", "cup", 3), book.state("one", 3), book.state("one", 4)),
                         (["cat"], ("sold", "ann"), ("put", "cat")))
        self.assertEqual(book.rows("one")[-2:], [(4, "put", "cat", 90), (7, "gone", "cat", 0)])

    def test_sold_in_another_house_that_one_owes_it(self):
        book = book_with(*self.SOLD, MILL, (3, "hand", "inn", "mill"), (4, "bring", "one"))
        self.assertEqual(sums_of(book, 3), [("inn", 90, 0, 90, 0, 0), ("mill", 0, 0, 0, 0, 0)])
        self.assertEqual(sums_of(book), [("inn", 90, 0, 0, 0, 90), ("mill", -90, 0, 0, 90, 0)])
        self.assertEqual(owed_by(book, "inn", "mill"), 90)
        self.balanced(book)
        self.voids(*self.SOLD, MILL, (3, "hand", "inn", "mill"), (8, "bring", "one"), word="late")

    def test_through_a_chain_of_handings_the_seller_owes_the_last_house(self):
        book = book_with(*self.SOLD, MILL, HALL, (3, "hand", "inn", "mill"), (3, "hand", "mill", "hall"),
                         (4, "bring", "one"))
        self.assertEqual([owed_by(book, *pair) for pair in itertools.permutations(("inn", "mill", "hall"), 2)],
                         [0, 90, 0, 0, 0, 0])
        self.assertEqual(till_of(book, "hall"), -90)
        self.balanced(book)

    def test_handed_while_put_by_and_sold_there_it_owes_nothing(self):
        book = book_with(*START, MILL, PUT, PAY, (1, "hand", "inn", "mill"), (1, "pay", "one", "ann"),
                         (1, "pay", "one", "ann"), (2, "bring", "one"))
        self.assertEqual(sums_of(book), [("inn", 30, 0, 0, 0, 30), ("mill", -30, 0, 0, 30, 0)])
        self.balanced(book)


class HandTest(BookTest):
    HAND = (1, "hand", "inn", "mill")

    def test_none_ahead_of_shut(self):
        self.voids(self.HAND, word="none")
        self.voids(INN, self.HAND, word="none")
        self.voids(MILL, self.HAND, word="none")
        self.voids(INN, MILL, self.HAND, (1, "hand", "inn", "hall"), word="none")
        self.voids(INN, MILL, self.HAND, (1, "hand", "hall", "inn"), word="none")
        self.voids(INN, MILL, HALL, self.HAND, (1, "hand", "inn", "hall"), word="shut")
        self.voids(INN, MILL, HALL, self.HAND, (1, "hand", "hall", "inn"), word="shut")
        self.voids(INN, MILL, self.HAND, self.HAND, word="shut")
        self.voids(INN, MILL, self.HAND, (1, "hand", "mill", "inn"), word="shut")

    def test_wares_put_by_sold_and_free(self):
        book = book_with(
            *START, TWO, (0, "ware", "six", "cup", "inn"), MILL, (0, "ware", "far", "cup", "mill"), PUT, PAY,
            (0, "put", "inn", "cup", "bob"), *[(0, "pay", "six", "ann")] * 2, (0, "put", "inn", "cup", "cat"),
            *[(0, "pay", "two", "cat")] * 3, (0, "ware", "wa", "jug", "inn"), self.HAND)
        self.assertEqual(book.rows("one")[3:], [(1, "handed", "mill", 30), (10, "gone", "ann", 5), (10, "back", "ann", 25)])
        self.assertEqual(book.rows("six")[4:], [(1, "handed", "mill", 60), (17, "gone", "bob", 33), (17, "back", "ann", 27)])
        self.assertEqual(book.rows("two")[5:], [(0, "sold", "cat", 90), (1, "handed", "mill", 0)])
        self.rows(book, "wa", (0, "new", "inn", 0), (1, "handed", "mill", 0))
        self.rows(book, "far", (0, "new", "mill", 0))
        wares = ("far", "one", "six", "two", "wa")
        self.assertEqual([book.house_of(ware, 0) for ware in wares], ["mill"] + ["inn"] * 4)
        self.assertEqual([book.house_of(ware) for ware in wares], ["mill"] * 5)

    def test_put_by_they_stay_so_by_their_rules(self):
        book = book_with(*START, MILL, PUT, PAY, self.HAND, (9, *PAY[1:]), (16, *PAY[1:]))
        self.assertEqual(book.voids(), [])
        self.assertEqual(book.rows("one")[3:], [(1, "handed", "mill", 30), (9, "paid", "ann", 30), (16, "paid", "ann", 30),
                                                (16, "sold", "ann", 90)])
        self.assertEqual(sums_of(book), [("inn", 30, 0, 0, 0, 30), ("mill", 60, 0, 90, 30, 0)])
        self.balanced(book)

    def test_a_ware_gone_behind_it_is_put_by_by_the_new_house_s_rule(self):
        book = book_with(*START, MILL, PUT, (0, "put", "inn", "cup", "bob"), self.HAND)
        self.assertEqual(book.rows("one")[2:], [(1, "handed", "mill", 0), (3, "gone", "ann", 0), (3, "put", "bob", 90),
                                                (4, "gone", "bob", 0)])

    def test_prices_of_kinds_without_one(self):
        book = book_with(INN, MILL, CUP, (0, "price", "inn", "jug", 20), (0, "price", "mill", "cup", 70), self.HAND,
                         (2, "ware", "wa", "cup", "mill"), (2, "ware", "wb", "jug", "mill"),
                         (2, "put", "mill", "cup", "ann"), (2, "put", "mill", "jug", "ann"))
        self.assertEqual(book.voids(), [])
        self.assertEqual([row[3] for row in book.stands(2)], [70, 20])

    def test_no_price_falls_by_it(self):
        book = book_with(*START, MILL, (0, "price", "mill", "cup", 10), PUT, self.HAND)
        self.assertEqual([row[1] for row in book.rows("one")], ["new", "put", "handed", "gone"])

    def test_who_waits_waits_behind_those_who_wait_there(self):
        puts = [(0, "put", house, "cup", who) for house, who in
                (("inn", "ann"), ("mill", "bob"), ("inn", "cat"), ("mill", "ann"))]
        book = book_with(INN, MILL, CUP, (0, "price", "mill", "cup", 50), *puts, self.HAND,
                         (2, "put", "mill", "cup", "dan"))
        self.assertEqual(book.waits("mill", "cup", 1), ["bob", "ann", "ann", "cat"])
        self.assertEqual(book.waits("mill", "cup", 2), ["bob", "ann", "ann", "cat", "dan"])
        self.assertEqual((book.waits("inn", "cup", 0), book.waits("inn", "cup", 1)), (["ann", "cat"], []))

    def test_free_wares_are_put_by_for_who_waits_in_their_order(self):
        # inn has free wares, those who wait are mill's; of jugs it is the other way round.
        book = book_with(
            *START, MILL, TWO, (0, "price", "mill", "cup", 50), (0, "price", "inn", "jug", 40),
            *[(0, "put", "mill", "cup", who) for who in ("bob", "ann", "cat")],
            (0, "ware", "aa", "jug", "mill"), (0, "put", "inn", "jug", "dan"), self.HAND)
        self.assertEqual([(row[0], row[1], row[3]) for row in book.stands(1)],
                         [("aa", "dan", 40), ("one", "bob", 50), ("two", "ann", 50)])
        self.assertEqual(book.waits("mill", "cup", 1), ["cat"])
        self.rows(book, "one", (0, "new", "inn", 0), (1, "handed", "mill", 0), (1, "put", "bob", 50),
                  (2, "gone", "bob", 0), (2, "put", "cat", 50), (3, "gone", "cat", 0))

    def test_what_is_paid_on_wares_put_by_is_owed(self):
        book = book_with(*START, TWO, MILL, PUT, PUT, PAY, (0, "pay", "two", "ann"), (0, "pay", "two", "ann"), self.HAND)
        self.assertEqual((owed_by(book, "inn", "mill", 1), owed_by(book, "mill", "inn", 1)), (90, 0))
        self.assertEqual(sums_of(book, 1), [("inn", 90, 0, 0, 0, 90), ("mill", 0, 90, 0, 90, 0)])
        self.balanced(book)

    def test_a_chain_of_handings(self):
        book = book_with(*START, MILL, HALL, PUT, PAY, self.HAND, (2, *PAY[1:]), (3, "hand", "mill", "hall"),
                         (4, *PAY[1:]))
        self.assertEqual(sums_of(book, 3), [("hall", 0, 60, 0, 60, 0), ("inn", 30, 0, 0, 0, 30),
                                            ("mill", 30, 0, 0, 30, 60)])
        self.assertEqual(sums_of(book), [("hall", 30, 0, 90, 60, 0), ("inn", 30, 0, 0, 0, 30), ("mill", 30, 0, 0, 30, 60)])
        self.assertEqual([row for row in book.rows("one") if row[1] == "handed"],
                         [(1, "handed", "mill", 30), (3, "handed", "hall", 60)])
        self.balanced(book)

    def test_back_out_of_the_new_house_s_till(self):
        book = book_with(*START, MILL, PUT, PAY, self.HAND, (2, "up", "one"))
        self.assertEqual(sums_of(book), [("inn", 30, 0, 0, 0, 30), ("mill", -27, 0, 3, 30, 0)])
        self.balanced(book)


class SettleTest(BookTest):
    OWED = (*START, MILL, PUT, PAY, (1, "hand", "inn", "mill"))

    def test_none_and_much(self):
        self.voids((1, "settle", "inn", "mill", 1), word="none")
        self.voids(INN, (1, "settle", "inn", "mill", 1), word="none")
        self.voids(MILL, (1, "settle", "inn", "mill", 1), word="none")
        self.voids(INN, MILL, (1, "settle", "inn", "mill", 1), word="much")
        self.voids(*self.OWED, (1, "settle", "inn", "mill", 31), word="much")
        self.voids(*self.OWED, (1, "settle", "mill", "inn", 1), word="much")
        self.voids(*self.OWED, (1, "settle", "inn", "mill", 30), (1, "settle", "inn", "mill", 1), word="much")

    def test_up_to_what_is_owed(self):
        book = book_with(*self.OWED, (2, "settle", "inn", "mill", 12), (3, "settle", "inn", "mill", 18))
        self.assertEqual(book.voids(), [])
        self.assertEqual([owed_by(book, "inn", "mill", day) for day in (1, 2, 3)], [30, 18, 0])
        self.assertEqual([till_of(book, "inn", day) for day in (1, 2, 3)], [30, 18, 0])
        self.assertEqual([till_of(book, "mill", day) for day in (1, 2, 3)], [0, 12, 30])
        self.balanced(book)


class MorningTest(BookTest):
    def test_wares_are_let_go_by_rising_names_ahead_of_the_day_s_entries(self):
        book = book_with(
            INN, CUP, TWO, ONE, *[(0, "put", "inn", "cup", who) for who in ("ann", "bob", "cat", "dan")],
            (3, "leave", "inn", "cup", "cat"), (3, "put", "inn", "cup", "eve"))
        self.assertEqual((book.state("one", 3), book.state("two", 3)), (("put", "cat"), ("put", "dan")))
        self.assertEqual(book.voids(), [(8, "none")])
        self.assertEqual(book.waits("inn", "cup", 3), ["eve"])

    def test_a_price_of_that_day_comes_behind_the_morning(self):
        book = book_with(*START, PUT, (0, "put", "inn", "cup", "bob"), (3, "price", "inn", "cup", 70))
        self.assertEqual(book.rows("one")[2:5], [(3, "gone", "ann", 0), (3, "put", "bob", 90), (3, "price", "bob", 70)])

    def test_gone_just_on_the_day_the_rule_tells(self):
        for text, days in itertools.product(
                ("3 parts by 7 days", "2 parts by 3 days, grace 2", "3 parts by 5 days, grace 1, misses 1, keep 30",
                 "3 parts by 4 days, grace 3, from last, misses 2, keep 10 20 30, fine 50"),
                ((), (0,), (0, 2))):
            putby = Putby(read_rule(text), 101, 6)
            for day in days:
                putby.pay(6 + day, "ann")
            last = putby.last_day()
            entries = [(6 + day, "pay", "one", "ann") for day in days]
            book = book_with((0, "house", "inn", text), (0, "price", "inn", "cup", 101), ONE,
                             (6, "put", "inn", "cup", "ann"), *entries)
            self.assertEqual(book.voids(), [])
            if last is None:
                self.assertEqual(book.state("one"), ("sold", "ann"))
                continue
            self.assertEqual(book.stands(last), [("one", "ann", putby.paid(), 101, last)])
            self.assertEqual(book.stands(last + 1), [])
            putby.pass_to(400)
            self.assertEqual(book.rows("one")[2 + len(days):], [
                (last + 1, "gone", "ann", putby.kept()), *[(day, "back", who, pence) for day, who, pence in putby.backs()]])

    def test_on_days_without_entries_one_goes_behind_the_other(self):
        book = book_with((0, "house", "inn", "1 parts by 1 days"), CUP, ONE,
                         *[(0, "put", "inn", "cup", who) for who in ("ann", "bob", "ann", "cat")])
        self.assertEqual(book.fate("one"), [(0, 0, "put", "ann"), (1, 1, "put", "bob"), (2, 2, "put", "ann"),
                                            (3, 3, "put", "cat"), (4, 400, "free", "")])

    def test_on_day_400_and_not_beyond_it(self):
        for day, gone in ((396, True), (397, True), (398, False), (400, False)):
            book = book_with(*START, (day, *PUT[1:]))
            self.assertIs(book.rows("one")[-1] == (day + 3, "gone", "ann", 0), gone)
            self.assertEqual(book.state("one"), ("free", "") if gone else ("put", "ann"))


if __name__ == "__main__":
    unittest.main()
