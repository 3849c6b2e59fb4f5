"""[13], [14] and [2] of a book: turns, and what is asked as of a day."""

import inspect
import random
import unittest

from books import BookTest, book_with, told_of, tried
from slow_book import random_entries

from partwares.book import Book
from partwares.errors import NoEntry, NoHouse, NoWare

INN = (0, "house", "inn", "3 parts by 7 days, grace 2, keep 0 10 50, fine 5, falls 10, back 5")
MILL = (0, "house", "mill", "2 parts by 3 days")
CUP = (0, "price", "inn", "cup", 90)
ONE = (0, "ware", "one", "cup", "inn")
TWO = (0, "ware", "two", "cup", "inn")
PUT = (0, "put", "inn", "cup", "ann")
PAY = (0, "pay", "one", "ann")


class InterfaceTest(unittest.TestCase):
    METHODS = {
        "enter": ["day", "deed"], "strike": ["number"], "undo": [], "entries": [], "twin": [], "voids": [],
        "rows": ["ware"], "fate": ["ware"], "state": ["ware", "day"], "stands": ["day"], "house_of": ["ware", "day"],
        "waits": ["house", "kind", "day"],
    }

    def test_methods_stand_in_the_class_with_their_names(self):
        for name, arguments in self.METHODS.items():
            parameters = inspect.signature(vars(Book)[name]).parameters
            self.assertEqual(list(parameters)[1:], arguments)
            if "day" in parameters and name != "enter":
                self.assertEqual(parameters["day"].default, 400)
        for name in ("__eq__", "__len__", "__repr__"):
            self.assertIn(name, vars(Book))

    def test_everything_by_names(self):
        book = Book()
        self.assertEqual(book.enter(deed=INN[1:], day=0), (0, []))
        for entry in (CUP, ONE, PUT, PUT):
            book.enter(day=entry[0], deed=entry[1:])
        self.assertEqual(book.rows(ware="one"), book.rows("one"))
        self.assertEqual(book.fate(ware="one"), book.fate("one"))
        self.assertEqual((book.state(day=2, ware="one"), book.state(ware="one")), (("put", "ann"), ("free", "")))
        self.assertEqual(book.stands(day=2), [("one", "ann", 0, 90, 2)])
        self.assertEqual(book.house_of(day=2, ware="one"), "inn")
        self.assertEqual(book.waits(day=2, kind="cup", house="inn"), ["ann"])
        self.assertEqual(book.strike(number=2), ["one"])


class EmptyTest(unittest.TestCase):
    def test_what_an_empty_book_tells(self):
        book = Book()
        self.assertEqual((book.entries(), len(book), repr(book), book.voids(), book.stands(), book.stands(0)),
                         ([], 0, "Book(0 entries, 0 wares)", [], [], []))
        self.assertEqual(book, Book())
        self.assertEqual(book, book.twin())
        for ask, error in ((book.undo, NoEntry), (lambda: book.strike(0), NoEntry), (lambda: book.rows("one"), NoWare),
                           (lambda: book.fate("one"), NoWare), (lambda: book.state("one"), NoWare),
                           (lambda: book.house_of("one"), NoWare), (lambda: book.waits("inn", "cup"), NoHouse)):
            with self.assertRaises(error) as caught:
                ask()
            self.assertIs(type(caught.exception), error)


class EnterTest(BookTest):
    def test_numbers_and_wares(self):
        book = Book()
        told = [book.enter(entry[0], entry[1:]) for entry in (INN, CUP, ONE, TWO, PUT, (0, "put", "inn", "jug", "ann"))]
        self.assertEqual(told, [(0, []), (1, []), (2, ["one"]), (3, ["two"]), (4, ["one"]), (5, [])])
        self.assertIs(type(told[2]), tuple)
        self.assertIs(type(told[2][1]), list)
        self.assertEqual(book.voids(), [(5, "none")])

    def test_told_late_a_deed_ahead_of_all_brings_all_wares(self):
        book = book_with(CUP, (1, *TWO[1:]), (2, *ONE[1:]), (3, *PUT[1:]))
        self.assertEqual(book.voids(), [(0, "none"), (1, "none"), (2, "none"), (3, "none")])
        # On the same day the entries are done by their numbers, so the price is still void.
        self.assertEqual(book.enter(0, INN[1:]), (4, ["one", "two"]))
        self.assertEqual(book.voids(), [(0, "none"), (3, "none")])
        self.assertEqual(book.enter(2, CUP[1:]), (5, ["one"]))
        self.assertEqual(book.voids(), [(0, "none")])

    def test_told_late_just_the_wares_whose_rows_move(self):
        book = book_with(INN, CUP, ONE, TWO, (0, "ware", "six", "cup", "inn"), (5, "put", "inn", "cup", "bob"),
                         (6, "put", "inn", "cup", "cat"))
        # ann comes ahead: each of the others has the next ware, but nobody moves behind them.
        self.assertEqual(book.enter(4, PUT[1:]), (7, ["one", "six", "two"]))
        self.assertEqual([row[:2] for row in book.stands(6)], [("one", "ann"), ("six", "bob"), ("two", "cat")])
        # A payment told late keeps one put by longer.
        self.assertEqual(book.enter(4, PAY[1:]), (8, ["one"]))
        self.assertEqual(book.enter(4, ("leave", "inn", "cup", "ann")), (9, []))

    def test_who_waits_moves_with_what_is_told_late(self):
        book = book_with(INN, CUP, ONE, PUT, (1, "put", "inn", "cup", "bob"))
        self.assertEqual(book.state("one", 3), ("put", "bob"))
        self.assertEqual(book.enter(2, PAY[1:]), (5, ["one"]))
        self.assertEqual(book.state("one", 3), ("put", "ann"))
        self.assertIn((10, "put", "bob", 90), book.rows("one"))
        self.assertEqual(book.enter(0, TWO[1:]), (6, ["one", "two"]))
        self.assertEqual(book.state("two", 1), ("put", "bob"))
        self.assertEqual(book.rows("one")[3:], [(10, "gone", "ann", 5), (10, "back", "ann", 25)])


class StrikeTest(BookTest):
    def test_wares_and_numbers(self):
        book = book_with(INN, CUP, ONE, TWO, PUT, PAY)
        self.assertEqual(book.strike(2), ["one", "two"])
        self.assertEqual(book.entries(), [(0, 0, INN[1:]), (0, 1, CUP[1:]), (0, 3, TWO[1:]), (0, 4, PUT[1:]),
                                          (0, 5, PAY[1:])])
        self.assertEqual(book.voids(), [(5, "none")])
        self.assertEqual(book.enter(0, ONE[1:]), (6, ["one"]))
        self.assertEqual(book.strike(6), ["one"])
        # A struck one's number doesn't come again.
        self.assertEqual(book.enter(0, ONE[1:])[0], 7)
        self.assertEqual(book.strike(0), ["one", "two"])
        self.assertEqual(repr(book), "Book(5 entries, 0 wares)")

    def test_a_void_deed_struck_moves_none(self):
        book = book_with(INN, CUP, ONE, PAY, PUT)
        self.assertEqual(book.strike(3), [])
        self.assertEqual(book.voids(), [])

    def test_no_entry_changes_nothing(self):
        book = book_with(INN, CUP, ONE, PUT)
        book.strike(1)
        ahead = told_of(book)
        for number in (-1, 1, 4, 5, 999, 10 ** 30, -10 ** 30):
            with self.assertRaises(NoEntry) as caught:
                book.strike(number)
            self.assertIs(type(caught.exception), NoEntry)
            self.assertEqual(told_of(book), ahead)
        # What was refused is no turn that could be undone.
        self.assertEqual(book.undo(), ["one"])
        self.assertEqual(book.entries()[1], (0, 1, CUP[1:]))


class UndoTest(BookTest):
    def test_of_an_enter_the_number_comes_again(self):
        book = book_with(INN, CUP, ONE)
        self.assertEqual(book.undo(), ["one"])
        self.assertEqual(len(book), 2)
        self.assertEqual(book.enter(5, TWO[1:]), (2, ["two"]))

    def test_of_a_strike_the_entry_is_there_again_by_its_number(self):
        book = book_with(INN, CUP, ONE, PUT)
        ahead, entries = told_of(book), book.entries()
        book.strike(2)
        self.assertEqual(book.undo(), ["one"])
        self.assertEqual((told_of(book), book.entries()), (ahead, entries))
        self.assertEqual(book.enter(0, PAY[1:])[0], 4)

    def test_to_the_beginning_and_no_entry_then(self):
        book, books = Book(), []
        turns = [(INN, None), (CUP, None), (ONE, None), (None, 1), (PUT, None), (None, 0), (None, 3), (TWO, None)]
        for entry, number in turns:
            books.append((told_of(book), book.entries()))
            if entry:
                book.enter(entry[0], entry[1:])
            else:
                book.strike(number)
        for ahead in reversed(books):
            book.undo()
            self.assertEqual((told_of(book), book.entries()), ahead)
        for _ in range(2):
            with self.assertRaises(NoEntry) as caught:
                book.undo()
            self.assertIs(type(caught.exception), NoEntry)
        self.assertEqual(book.enter(0, INN[1:]), (0, []))

    def test_numbers_behind_an_undone_enter_of_a_struck_book(self):
        book = book_with(INN, CUP)
        book.strike(1)
        self.assertEqual(book.enter(0, CUP[1:])[0], 2)
        book.undo()
        self.assertEqual(book.enter(0, ONE[1:])[0], 2)
        book.undo()
        book.undo()
        self.assertEqual(book.entries(), [(0, 0, INN[1:]), (0, 1, CUP[1:])])
        book.undo()
        self.assertEqual(book.enter(0, ONE[1:])[0], 1)

    def test_turns_at_random(self):
        chance = random.Random(13)
        for _ in range(12):
            book, model, steps = Book(), [], []
            deeds = random_entries(chance, 25)
            chance.shuffle(deeds)
            number = 0
            while deeds:
                turn, ahead = chance.choice(("enter", "enter", "enter", "strike", "undo")), (list(model), number)
                rows = {ware: tried(book.rows, ware) for ware in ("wa", "wb", "wc", "wd", "we", "wf")}
                if turn == "enter":
                    day, deed = deeds.pop()
                    told, wares = book.enter(day, deed)
                    self.assertEqual(told, number)
                    model, number = sorted(model + [(day, number, deed)]), number + 1
                    steps.append(ahead)
                elif turn == "strike":
                    struck = chance.randint(0, number + 1)
                    if struck not in [entry[1] for entry in model]:
                        self.assertEqual(tried(book.strike, struck), "NoEntry")
                        continue
                    wares = book.strike(struck)
                    model = [entry for entry in model if entry[1] != struck]
                    steps.append(ahead)
                elif steps:
                    wares = book.undo()
                    model, number = steps.pop()
                else:
                    self.assertEqual(tried(book.undo), "NoEntry")
                    continue
                self.assertEqual(book.entries(), model)
                self.assertEqual(wares, [ware for ware in sorted(rows) if tried(book.rows, ware) != rows[ware]])
                self.assertEqual(len(book), len(model))


class AlikeTest(BookTest):
    def test_days_and_deeds_in_order_numbers_aside(self):
        one = book_with(INN, CUP, (3, *ONE[1:]), (2, *TWO[1:]))
        other = book_with((3, *ONE[1:]), (2, *TWO[1:]), INN, INN, CUP)
        self.assertNotEqual(one, other)
        other.strike(2)
        self.assertTrue(one == other)
        self.assertFalse(one != other)
        self.assertNotEqual(one.entries(), other.entries())

    def test_unlike_ones(self):
        book = book_with(INN, CUP)
        for other in (Book(), book_with(CUP, INN), book_with(INN, (1, *CUP[1:])), book_with(INN), book_with(INN, CUP, CUP),
                      book_with(INN, (0, "price", "inn", "cup", 91)), None, 2, "Book(2 entries, 0 wares)", [], (),
                      book.entries(), True):
            self.assertFalse(book == other)
            self.assertTrue(book != other)

    def test_repr_counts_wares_by_day_400(self):
        self.assertEqual(repr(book_with(INN, ONE, (400, *TWO[1:]), (400, *TWO[1:]))), "Book(4 entries, 2 wares)")
        self.assertEqual(repr(book_with(ONE)), "Book(1 entries, 0 wares)")

    def test_the_same_deeds_in_any_order_of_turns(self):
        chance = random.Random(3)
        for _ in range(10):
            deeds = random_entries(chance, 30)
            one = book_with(*[(day, *deed) for day, deed in deeds])
            byday = {day: [deed for told, deed in deeds if told == day] for day, _ in deeds}
            other = Book()
            while byday:
                # Those of a day keep their order: they are done by their numbers.
                day = chance.choice(sorted(byday))
                other.enter(day, byday[day].pop(0))
                if chance.random() < 0.3:
                    other.twin().undo()
                    other.enter(day, ("up", "wa"))
                    other.undo()
                byday = {day: left for day, left in byday.items() if left}
            self.assertEqual(one, other)
            self.assertEqual(told_of(one), told_of(other))


class TwinTest(BookTest):
    def test_it_goes_its_own_way_with_what_can_be_undone(self):
        book = book_with(INN, CUP, ONE, PUT)
        book.strike(3)
        twin = book.twin()
        self.assertIs(type(twin), Book)
        self.assertIsNot(twin, book)
        self.assertEqual((twin, told_of(twin), twin.entries()), (book, told_of(book), book.entries()))
        ahead = told_of(book)
        self.assertEqual(twin.undo(), ["one"])
        self.assertEqual(twin.enter(1, TWO[1:]), (4, ["two"]))
        self.assertEqual(told_of(book), ahead)
        ahead = told_of(twin)
        self.assertEqual(book.enter(1, TWO[1:]), (4, ["two"]))
        book.undo()
        book.undo()
        while len(book) > 0:
            book.undo()
        self.assertEqual(told_of(twin), ahead)
        for _ in range(5):
            twin.undo()
        self.assertEqual(twin, Book())


class AsksTest(BookTest):
    def setUp(self):
        self.book = book_with(
            INN, (2, *MILL[1:]), CUP, (3, *ONE[1:]), (4, *PUT[1:]), (4, "put", "inn", "cup", "bob"),
            (4, "put", "inn", "cup", "bob"), (5, *PAY[1:]), (6, "up", "one"), (8, "hand", "inn", "mill"),
            (8, "put", "mill", "cup", "ann"), (9, "up", "one"), (10, "pay", "one", "bob"), (11, "pay", "one", "ann"))

    def test_rows_in_their_order(self):
        self.rows(self.book, "one", (3, "new", "inn", 0), (4, "put", "ann", 90), (5, "paid", "ann", 30),
                  (6, "up", "ann", 3), (6, "back", "ann", 27), (6, "put", "bob", 90), (8, "handed", "mill", 0),
                  (9, "gone", "bob", 0), (9, "put", "bob", 90), (9, "up", "bob", 0), (9, "put", "ann", 90),
                  (10, "gone", "ann", 0))

    def test_fate_as_long_as_can_be(self):
        self.assertEqual(self.book.fate("one"), [(3, 3, "free", ""), (4, 5, "put", "ann"), (6, 8, "put", "bob"),
                                                 (9, 9, "put", "ann"), (10, 400, "free", "")])
        book = book_with(INN, CUP, ONE, PUT, PUT, PUT, (9, "put", "inn", "cup", "bob"))
        # put of two who are one is one; what comes and goes within a day isn't told.
        self.assertEqual(book.fate("one"), [(0, 8, "put", "ann"), (9, 11, "put", "bob"), (12, 400, "free", "")])
        book = book_with(INN, CUP, ONE, (5, *PUT[1:]), (5, "up", "one"))
        self.assertEqual(book.fate("one"), [(0, 400, "free", "")])
        book = book_with(INN, CUP, (400, *ONE[1:]))
        self.assertEqual(book.fate("one"), [(400, 400, "free", "")])

    def test_fate_of_what_is_sold_and_brought_back(self):
        book = book_with(INN, CUP, ONE, PUT, PAY, (1, *PAY[1:]), (2, *PAY[1:]), (4, "bring", "one"), (400, *PUT[1:]))
        self.assertEqual(book.fate("one"), [(0, 1, "put", "ann"), (2, 3, "sold", "ann"), (4, 399, "free", ""),
                                            (400, 400, "put", "ann")])
        again = [(3, *PUT[1:]), (4, "bring", "one"), (4, *PAY[1:]), (4, *PAY[1:]), (4, *PAY[1:])]
        book = book_with(INN, CUP, ONE, PUT, PAY, (1, *PAY[1:]), (2, *PAY[1:]), *again)
        self.assertEqual(book.fate("one"), [(0, 1, "put", "ann"), (2, 400, "sold", "ann")])

    def test_state_and_house_as_of_each_day(self):
        for book in (self.book, book_with(INN, CUP, ONE, PUT, PAY, (1, *PAY[1:]), (2, *PAY[1:]), (4, "bring", "one"))):
            fate, begin = book.fate("one"), book.rows("one")[0][0]
            self.assertEqual((fate[0][0], fate[-1][1]), (begin, 400))
            for ahead, behind in zip(fate, fate[1:]):
                self.assertEqual(ahead[1] + 1, behind[0])
                self.assertNotEqual(ahead[2:], behind[2:])
            for first, last, word, who in fate:
                for day in range(first, last + 1):
                    self.assertEqual(book.state("one", day), (word, who))
            self.assertEqual(book.state("one"), book.state("one", 400))
            for day in range(begin):
                self.assertEqual(tried(book.state, "one", day), "NoWare")
                self.assertEqual(tried(book.house_of, "one", day), "NoWare")
        self.assertEqual([self.book.house_of("one", day) for day in (3, 7, 8, 400)], ["inn", "inn", "mill", "mill"])
        self.assertEqual(self.book.house_of("one"), "mill")

    def test_stands_as_of_each_day(self):
        self.assertEqual([self.book.stands(day) for day in (3, 4, 5, 6, 8, 9, 10)], [
            [], [("one", "ann", 0, 90, 6)], [("one", "ann", 30, 90, 13)], [("one", "bob", 0, 90, 8)],
            [("one", "bob", 0, 90, 8)], [("one", "ann", 0, 90, 9)], []])
        self.assertEqual(self.book.stands(), [])
        book = book_with(INN, CUP, TWO, ONE, (400, *PUT[1:]), (400, *PUT[1:]))
        self.assertEqual(book.stands(), [("one", "ann", 0, 90, 402), ("two", "ann", 0, 90, 402)])

    def test_waits_as_of_each_day(self):
        self.assertEqual([self.book.waits("inn", "cup", day) for day in (0, 3, 4, 6, 8)],
                         [[], [], ["bob", "bob"], ["bob"], []])
        self.assertEqual([self.book.waits("mill", "cup", day) for day in (2, 7, 8, 9)], [[], [], ["bob", "ann"], []])
        self.assertEqual((self.book.waits("inn", "none"), self.book.waits("inn", "jug", 4)), ([], []))

    def test_no_ware_and_no_house_by_the_end_of_a_day(self):
        for day, right in ((0, "NoHouse"), (1, "NoHouse"), (2, []), (400, [])):
            self.assertEqual(tried(self.book.waits, "mill", "jug", day), right)
        for ask in (self.book.rows, self.book.fate, self.book.state, self.book.house_of):
            for name in ("two", "on", "onee", "inn", "cup", "ann"):
                self.assertEqual(tried(ask, name), "NoWare")
        self.assertEqual(tried(self.book.waits, "one", "cup"), "NoHouse")
        # A void deed makes none.
        book = book_with(ONE)
        self.assertEqual((tried(book.rows, "one"), tried(book.waits, "inn", "cup")), ("NoWare", "NoHouse"))

    def test_voids_by_numbers(self):
        book = book_with((5, *PAY[1:]), (3, *ONE[1:]), INN, (1, *INN[1:]), (0, "hand", "inn", "mill"))
        self.assertEqual(book.voids(), [(0, "idle"), (3, "taken"), (4, "none")])
        book = book_with((5, *PAY[1:]), (3, *PAY[1:]), (4, *ONE[1:]), INN)
        self.assertEqual(book.voids(), [(0, "idle"), (1, "none")])


class OwnTest(BookTest):
    def setUp(self):
        self.book = book_with(INN, CUP, ONE, PUT, PAY, PUT, (1, "pay", "two", "ann"), (400, *TWO[1:]))

    def asks(self):
        book = self.book
        return [book.entries, book.voids, lambda: book.rows("one"), lambda: book.fate("one"), lambda: book.stands(3),
                book.stands, lambda: book.waits("inn", "cup", 3), lambda: book.waits("inn", "jug")]

    def test_told_lists_are_the_asker_s_own(self):
        for ask in self.asks():
            ahead = told_of(self.book)
            one, other = ask(), ask()
            self.assertIs(type(one), list)
            self.assertIsNot(one, other)
            self.assertEqual(one, other)
            one.append("x")
            one.reverse()
            self.assertEqual((ask(), told_of(self.book)), (other, ahead))

    def test_what_was_told_stays_as_it_was(self):
        told = [ask() for ask in self.asks()]
        kept = [list(rows) for rows in told]
        _, wares = self.book.enter(0, TWO[1:])
        struck = self.book.strike(2)
        while len(self.book) > 0:
            self.book.undo()
        self.assertEqual(told, kept)
        self.assertEqual((wares, struck), (["one", "two"], ["one", "two"]))

    def test_wares_told_are_one_s_own(self):
        _, wares = self.book.enter(0, TWO[1:])
        ahead = told_of(self.book)
        wares.append("x")
        self.book.strike(4).append("x")
        self.book.undo().append("x")
        self.assertEqual(told_of(self.book), ahead)

    def test_asking_between_changes_nothing(self):
        chance = random.Random(2)
        for _ in range(4):
            asked, silent = Book(), Book()
            for day, deed in random_entries(chance, 25):
                self.assertEqual(asked.enter(day, deed), silent.enter(day, deed))
                self.assertEqual(told_of(asked, (day, 400)), told_of(asked, (day, 400)))
                self.assertEqual(tried(asked.state, "wz"), "NoWare")
            self.assertEqual(told_of(asked), told_of(silent))

    def test_told_entries_may_be_handed_in_again(self):
        book = Book()
        for day, _, deed in self.book.entries():
            book.enter(day, deed)
        self.assertEqual(book, self.book)

    def test_within_the_bounds_of_a_book(self):
        houses = [(0, "house", "h" * many, "6 parts by 14 days, grace 7, misses 2, back 30") for many in range(1, 7)]
        kinds = [(0, "price", "h", "k" * many, 10 ** 6) for many in range(1, 9)]
        wares = [(0, "ware", chr(97 + at), "k" * (at % 8 + 1), "h") for at in range(24)]
        puts = [(1, "put", "h", "k" * (at % 8 + 1), "ann") for at in range(40)]
        pays = [(2, "pay", chr(97 + at), "bob") for at in range(22)]
        book = book_with(*houses, *kinds, *wares, *puts, *pays)
        self.assertEqual((len(book), book.voids(), repr(book)), (100, [], "Book(100 entries, 24 wares)"))
        for turn in range(110):
            book.strike(turn) if turn < 100 else book.undo()
        for _ in range(90):
            book.undo()
        self.assertEqual((len(book), len(book.stands(30))), (100, 24))


if __name__ == "__main__":
    unittest.main()
