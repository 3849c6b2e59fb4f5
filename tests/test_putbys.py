"""[10], [1] and [2] of one ware put by."""

import inspect
import itertools
import random
import unittest

from slow import SlowPutby, slow_course

from partwares.errors import Idle, NoDay
from partwares.putbys import Putby
from partwares.rules import Rule
from partwares.words import parts_of

BEGINS = (0, 1, 33, 390)


def told_of(putby):
    """All that a Putby tells, asked without a day."""
    return (putby.state(), putby.price(), putby.paid(), putby.kept(), putby.backs(), putby.payments(), putby.last_day())


def paid_up(rule, price, days, begin=0, who="ann"):
    """A Putby of which a part is paid on each of these days, counted from begin."""
    putby = Putby(rule, price, begin)
    for day in days:
        putby.pay(begin + day, who)
    return putby


def ended_ones():
    """A Putby that is gone, one given up, one sold, each passed to day 20."""
    rule = Rule(2, 7, grace=2, keep=50, falls=30)
    gone, up, sold = [paid_up(rule, 100, [0], 5) for _ in range(3)]
    up.give_up(8)
    sold.pay(8, "ann")
    for putby in (gone, up, sold):
        putby.pass_to(20)
    return [gone, up, sold]


class Base(unittest.TestCase):
    def refused(self, putby, error, *asks):
        """Each ask is refused with just this error, and nothing is changed."""
        ahead = told_of(putby)
        for ask in asks:
            with self.assertRaises(error) as caught:
                ask()
            self.assertIs(type(caught.exception), error)
            self.assertEqual(told_of(putby), ahead)


class InterfaceTest(unittest.TestCase):
    METHODS = {
        "pay": ["day", "who"], "give_up": ["day"], "price_falls": ["day", "price"], "pass_to": ["day"], "state": [],
        "price": [], "paid": [], "kept": [], "backs": [], "payments": [], "last_day": [], "would_go": ["day"],
    }

    def test_methods_stand_in_the_class_with_their_names(self):
        for name, arguments in self.METHODS.items():
            self.assertIn(name, vars(Putby))
            self.assertEqual(list(inspect.signature(vars(Putby)[name]).parameters)[1:], arguments)
        self.assertEqual(list(inspect.signature(Putby).parameters), ["rule", "price", "begin"])

    def test_arguments_by_their_names(self):
        putby = Putby(begin=3, price=100, rule=Rule(2, 7, falls=9))
        self.assertEqual(putby.pay(who="ann", day=3), 50)
        self.assertIsNone(putby.price_falls(price=90, day=4))
        self.assertIsNone(putby.pass_to(day=5))
        self.assertIs(putby.would_go(day=10), False)
        self.assertIs(putby.would_go(day=11), True)
        self.assertIsNone(putby.give_up(day=6))
        self.assertEqual(told_of(putby), (("up", 6), 90, 50, 0, [(6, "ann", 50)], [(3, "ann", 50)], None))

    def test_nothing_is_told_where_nothing_is_said_to_be(self):
        putby = Putby(Rule(2, 7), 100, 0)
        self.assertIsNone(putby.pass_to(0))
        self.assertIsNone(putby.price_falls(0, 1000))
        self.assertIsNone(putby.price_falls(0, 50))
        self.assertIsNone(putby.give_up(0))
        self.assertIsNone(putby.price_falls(0, 5))
        self.assertIsNone(putby.pass_to(9))


class AtFirstTest(Base):
    def test_as_it_is_put_by(self):
        for begin in BEGINS:
            putby = Putby(Rule(3, 7, grace=2, misses=1), 500, begin)
            self.assertEqual(told_of(putby), (("stands", begin, 0, 0), 500, 0, 0, [], [], begin + 9))

    def test_never_paid(self):
        for begin in BEGINS:
            for day, state in ((2, ("stands", begin, 0, 0)), (3, ("gone", begin + 3)), (50, ("gone", begin + 3))):
                putby = Putby(Rule(3, 7, grace=2, keep=100, fine=100), 500, begin)
                putby.pass_to(begin + day)
                self.assertEqual(putby.state(), state)
                self.assertEqual((putby.paid(), putby.kept(), putby.backs()), (0, 0, []))


class PenceTest(Base):
    def test_each_part_to_the_end(self):
        for price, parts in itertools.product((1, 2, 3, 5, 6, 7, 100, 127, 999999, 10 ** 6), range(1, 7)):
            putby = Putby(Rule(parts, 7), price, 0)
            told = [putby.pay(0, "ann") for _ in range(parts)]
            self.assertEqual(told, parts_of(price, parts))
            self.assertEqual((putby.state(), putby.kept(), putby.paid()), (("sold", 0), price, price))
            self.assertEqual(putby.payments(), [(0, "ann", pence) for pence in told])
            self.assertEqual(putby.backs(), [])

    def test_parts_of_no_pence(self):
        putby = Putby(Rule(4, 7), 2, 0)
        self.assertEqual([putby.pay(day, "ann") for day in (0, 1, 2)], [1, 1, 0])
        self.assertEqual(putby.state(), ("stands", 21, 3, 0))
        self.assertEqual((putby.paid(), putby.kept(), putby.last_day()), (2, 0, 21))
        self.assertEqual(putby.pay(3, "bob"), 0)
        self.assertEqual(told_of(putby), (("sold", 3), 2, 2, 2, [], [(0, "ann", 1), (1, "ann", 1), (2, "ann", 0),
                                                                    (3, "bob", 0)], None))

    def test_what_is_left_of_a_fallen_price_is_parted_anew(self):
        putby = Putby(Rule(4, 7, falls=30), 103, 0)
        self.assertEqual(putby.pay(0, "ann"), 26)
        putby.price_falls(1, 90)
        self.assertEqual(putby.pay(1, "ann"), 22)
        putby.price_falls(2, 50)
        self.assertEqual([putby.pay(2, "ann"), putby.pay(3, "ann")], [1, 1])
        self.assertEqual((putby.state(), putby.kept(), putby.price()), (("sold", 3), 50, 50))


class DaysTest(Base):
    def test_ahead_on_the_day_on_the_last_day_of_grace_and_a_day_later(self):
        for begin in BEGINS:
            for day, due in ((1, 14), (7, 14), (9, 14)):
                putby = paid_up(Rule(3, 7, grace=2), 90, [0, day], begin)
                self.assertEqual(putby.state(), ("stands", begin + due, 2, 0))
                self.assertEqual(putby.last_day(), begin + due + 2)
            for day, due in ((1, 8), (7, 14), (9, 16)):
                putby = paid_up(Rule(3, 7, grace=2, last=True), 90, [0, day], begin)
                self.assertEqual(putby.state(), ("stands", begin + due, 2, 0))
                self.assertEqual(putby.last_day(), begin + due + 2)
            for last in (False, True):
                putby = paid_up(Rule(3, 7, grace=2, last=last), 90, [0], begin)
                self.refused(putby, Idle, lambda: putby.pay(begin + 10, "ann"), lambda: putby.give_up(begin + 10))
                self.assertEqual(putby.state(), ("stands", begin + 7, 1, 0))
                # No day was passed by that.
                self.assertEqual(putby.pay(begin + 9, "ann"), 30)

    def test_misses(self):
        for begin in BEGINS:
            for misses, gone in ((0, 3), (1, 10), (2, 17)):
                rule = Rule(3, 7, grace=2, misses=misses)
                putby = Putby(rule, 90, begin)
                self.assertEqual(putby.last_day(), begin + gone - 1)
                putby.pass_to(begin + gone - 1)
                self.assertEqual(putby.state(), ("stands", begin + 7 * misses, 0, misses))
                self.assertEqual(putby.last_day(), begin + gone - 1)
                putby.pass_to(begin + gone)
                self.assertEqual(putby.state(), ("gone", begin + gone))
                self.assertIsNone(putby.last_day())

    def test_misses_of_all_parts_are_counted(self):
        putby = paid_up(Rule(3, 7, grace=2, misses=1), 90, [3], 5)
        self.assertEqual(putby.state(), ("stands", 19, 1, 1))
        self.assertEqual(putby.last_day(), 21)
        putby.pass_to(22)
        self.assertEqual(putby.state(), ("gone", 22))

    def test_states_as_a_walk_through_all_days_has_them(self):
        rules = [Rule(*figures) for figures in itertools.product((1, 2, 3), (1, 3), (0, 1, 4), (False, True), (0, 1, 2))]
        for rule, begin, days in itertools.product(rules, (0, 7), ([], [0], [0, 2], [1, 4], [3, 3], [2, 5])):
            for end in range(days[-1] if days else 0, 16):
                putby = Putby(rule, 50, begin)
                for day in days:
                    putby.pass_to(begin + day)
                    if putby.state()[0] == "stands":
                        putby.pay(begin + day, "ann")
                putby.pass_to(begin + end)
                word, day, *more = slow_course(rule, days, end)
                self.assertEqual(putby.state(), (word, begin + day, *(more if word == "stands" else ())))
                if word == "stands":
                    last = putby.last_day() - begin
                    self.assertEqual(slow_course(rule, days, last)[0], "stands")
                    self.assertEqual(slow_course(rule, days, last + 1)[0], "gone")

    def test_paid_on_the_last_day_each_time(self):
        for figures in itertools.product((1, 3, 6), (1, 14), (0, 7), (False, True), (0, 1, 2)):
            putby = Putby(Rule(*figures), 1000, 40)
            while putby.state()[0] == "stands":
                last = putby.last_day()
                self.refused(putby, Idle, lambda: putby.pay(last + 1, "ann"))
                self.assertEqual((putby.would_go(last), putby.would_go(last + 1)), (False, True))
                putby.pay(last, "ann")
            self.assertEqual((putby.state(), putby.kept()), (("sold", last), 1000))


class GivenUpTest(Base):
    RULE = Rule(3, 7, grace=2, keep=(7, 10, 40), fine=5)

    def test_with_each_number_of_parts_paid(self):
        for begin in BEGINS:
            for days, kept, backs in (
                    ([], 0, []), ([0], 4, [(begin + 8, "ann", 30)]),
                    ([0, 7], 28, [(begin + 8, "ann", 34), (begin + 8, "ann", 6)])):
                putby = paid_up(self.RULE, 101, days, begin)
                day = begin if days == [] else begin + 8
                putby.give_up(day)
                self.assertEqual(putby.state(), ("up", day))
                self.assertEqual((putby.kept(), putby.backs()), (kept, backs))
                self.assertEqual(putby.paid(), kept + sum(back[2] for back in backs))
                self.assertEqual((putby.price(), putby.last_day()), (101, None))

    def test_on_the_last_day_and_a_day_later(self):
        for begin in BEGINS:
            putby = paid_up(self.RULE, 90, [0], begin)
            self.refused(putby, Idle, lambda: putby.give_up(begin + 10))
            putby.give_up(begin + 9)
            self.assertEqual(putby.state(), ("up", begin + 9))

    def test_what_is_kept_is_rounded_up(self):
        for keep, kept in ((0, 0), (1, 1), (10, 4), (50, 17), (99, 33), (100, 33)):
            putby = paid_up(Rule(3, 7, keep=keep), 99, [0])
            putby.give_up(0)
            self.assertEqual(putby.kept(), kept)
            self.assertEqual(putby.backs(), [(0, "ann", 33 - kept)] if kept < 33 else [])


class GoneTest(Base):
    def test_on_its_day_however_late_it_is_passed(self):
        rule = Rule(3, 7, grace=2, keep=(7, 10, 50), fine=5)
        for begin, late in itertools.product(BEGINS, (0, 1, 100)):
            putby = paid_up(rule, 100, [0], begin)
            putby.pass_to(begin + 9)
            self.assertEqual(putby.state(), ("stands", begin + 7, 1, 0))
            putby.pass_to(begin + 10 + late)
            self.assertEqual(told_of(putby), (("gone", begin + 10), 100, 34, 6, [(begin + 10, "ann", 28)],
                                              [(begin, "ann", 34)], None))

    def test_gone_by_a_fall_of_the_price(self):
        putby = paid_up(Rule(3, 7, grace=2, keep=50, falls=30), 100, [0])
        putby.price_falls(10, 20)
        self.assertEqual(told_of(putby), (("gone", 10), 100, 34, 17, [(10, "ann", 17)], [(0, "ann", 34)], None))
        putby = paid_up(Rule(3, 7, grace=2, keep=50, falls=30), 100, [0])
        putby.price_falls(9, 20)
        self.assertEqual(putby.state(), ("sold", 9))

    def test_fine_is_of_what_is_let_go_alone_and_at_most_all(self):
        for keep, fine, up, gone in ((0, 0, 0, 0), (0, 20, 0, 10), (30, 20, 15, 25), (90, 20, 45, 50),
                                     (100, 100, 50, 50)):
            putby = paid_up(Rule(2, 7, keep=keep, fine=fine), 100, [0])
            putby.give_up(0)
            self.assertEqual(putby.kept(), up)
            putby = paid_up(Rule(2, 7, keep=keep, fine=fine), 100, [0])
            putby.pass_to(8)
            self.assertEqual(putby.kept(), gone)


class BacksTest(Base):
    def test_the_last_payment_first_by_several_payers(self):
        rule = Rule(4, 7, keep=(0, 10, 40, 50))
        putby = Putby(rule, 100, 0)
        for day, who in ((0, "ann"), (1, "bob"), (2, "ann")):
            putby.pay(day, who)
        putby.give_up(5)
        self.assertEqual(putby.kept(), 38)
        self.assertEqual(putby.backs(), [(5, "ann", 25), (5, "bob", 12)])

    def test_a_row_for_each_payment_none_of_no_pence(self):
        putby = Putby(Rule(6, 7, keep=0), 3, 0)
        for day, who in enumerate(("ann", "bob", "ann", "cat", "dan")):
            putby.pay(day, who)
        putby.give_up(6)
        self.assertEqual(putby.backs(), [(6, "ann", 1), (6, "bob", 1), (6, "ann", 1)])
        self.assertEqual(len(putby.payments()), 5)

    def test_none_where_all_is_kept(self):
        putby = paid_up(Rule(3, 7, keep=100), 100, [0, 1])
        putby.give_up(3)
        self.assertEqual((putby.backs(), putby.kept()), ([], 67))

    def test_by_each_payment_at_most_what_was_paid_by_it(self):
        putby = Putby(Rule(3, 7, falls=30), 100, 0)
        putby.pay(0, "ann")
        putby.pay(1, "bob")
        putby.price_falls(2, 10)
        self.assertEqual(putby.backs(), [(2, "bob", 33), (2, "ann", 24)])
        self.assertEqual((putby.kept(), putby.paid(), putby.price()), (10, 67, 10))


class PriceFallsTest(Base):
    def test_within_falls_days_and_a_day_later(self):
        for begin, falls in itertools.product(BEGINS, (0, 5, 30)):
            rule = Rule(3, 14, grace=7, misses=2, falls=falls)
            putby = Putby(rule, 100, begin)
            putby.price_falls(begin + falls, 99)
            self.assertEqual(putby.price(), 99)
            putby = Putby(rule, 100, begin)
            putby.price_falls(begin + falls + 1, 99)
            self.assertEqual((putby.price(), putby.state()[0]), (100, "stands"))

    def test_a_price_that_is_not_less(self):
        for price in (100, 101, 10 ** 6):
            putby = paid_up(Rule(3, 7, falls=30), 100, [0])
            putby.price_falls(1, price)
            self.assertEqual(told_of(putby), (("stands", 7, 1, 0), 100, 34, 0, [], [(0, "ann", 34)], 7))
        # All pence are paid, but not all parts: a price as it is doesn't sell it.
        putby = paid_up(Rule(3, 7, falls=30), 1, [0])
        putby.price_falls(1, 1)
        self.assertEqual(putby.state(), ("stands", 7, 1, 0))

    def test_to_more_than_is_paid_to_as_much_and_to_less(self):
        for price, state, backs in ((35, ("stands", 12, 1, 0), []), (34, ("sold", 6), []),
                                    (33, ("sold", 6), [(6, "ann", 1)]), (1, ("sold", 6), [(6, "ann", 33)])):
            putby = paid_up(Rule(3, 7, falls=30), 100, [0], 5)
            putby.price_falls(6, price)
            self.assertEqual((putby.state(), putby.price(), putby.backs()), (state, price, backs))
            self.assertEqual(putby.kept(), price if state[0] == "sold" else 0)
            self.assertEqual(putby.paid(), 34)
            self.assertEqual(putby.last_day(), 12 if state[0] == "stands" else None)

    def test_several_falls_and_a_rise(self):
        putby = Putby(Rule(3, 14, misses=2, falls=9), 100, 0)
        for day, price, told in ((0, 90, 90), (3, 95, 90), (3, 80, 80), (9, 79, 79), (10, 1, 79)):
            putby.price_falls(day, price)
            self.assertEqual(putby.price(), told)

    def test_of_what_is_not_put_by_any_more_nothing_is_done_but_the_day_passed(self):
        for end in ("gone", "up", "sold"):
            putby = paid_up(Rule(2, 7, keep=50, falls=30), 100, [0])
            if end == "gone":
                putby.pass_to(8)
            elif end == "up":
                putby.give_up(8 - 1)
            else:
                putby.pay(7, "ann")
            ahead = told_of(putby)
            putby.price_falls(12, 1)
            self.assertEqual(told_of(putby), ahead)
            self.assertEqual(putby.state()[0], end)
            self.refused(putby, NoDay, lambda: putby.pass_to(11))


class RefusedTest(Base):
    def test_idle_and_no_day_is_passed(self):
        for putby in ended_ones():
            self.refused(putby, Idle, lambda: putby.pay(20, "ann"), lambda: putby.give_up(20),
                         lambda: putby.pay(90, "ann"), lambda: putby.give_up(90))
            putby.pass_to(20)
            self.refused(putby, NoDay, lambda: putby.pass_to(19))

    def test_a_day_that_falls_goes_ahead_of_idle(self):
        for putby in ended_ones():
            self.refused(putby, NoDay, lambda: putby.pay(19, "ann"), lambda: putby.give_up(19),
                         lambda: putby.price_falls(19, 1), lambda: putby.pass_to(19), lambda: putby.pay(0, "ann"))

    def test_a_day_ahead_of_begin(self):
        putby = Putby(Rule(2, 7, falls=30), 100, 5)
        self.refused(putby, NoDay, lambda: putby.pay(4, "ann"), lambda: putby.give_up(4),
                     lambda: putby.price_falls(4, 1), lambda: putby.pass_to(4), lambda: putby.pay(0, "ann"))
        self.assertEqual(putby.pay(5, "ann"), 50)

    def test_a_day_ahead_of_each_one_that_was_done(self):
        for do in (lambda putby: putby.pay(9, "ann"), lambda putby: putby.price_falls(9, 90),
                   lambda putby: putby.price_falls(9, 110), lambda putby: putby.pass_to(9),
                   lambda putby: putby.give_up(9)):
            putby = Putby(Rule(3, 14, misses=2, falls=30), 100, 5)
            do(putby)
            self.refused(putby, NoDay, lambda: putby.pay(8, "ann"), lambda: putby.give_up(8),
                         lambda: putby.price_falls(8, 1), lambda: putby.pass_to(8))
            putby.pass_to(9)

    def test_what_was_refused_may_be_done_on_an_earlier_day(self):
        putby = paid_up(Rule(2, 7, grace=2), 100, [0])
        self.refused(putby, Idle, lambda: putby.pay(300, "ann"))
        self.assertEqual(putby.pay(9, "bob"), 50)
        self.assertEqual(putby.state(), ("sold", 9))


class WouldGoTest(Base):
    def test_while_it_stands(self):
        for begin in BEGINS:
            for misses, gone in ((0, 10), (1, 17), (2, 24)):
                putby = paid_up(Rule(3, 7, grace=2, misses=misses), 90, [0], begin)
                for day in (0, 1, gone - 1):
                    self.assertIs(putby.would_go(begin + day), False)
                for day in (gone, gone + 1, gone + 500):
                    self.assertIs(putby.would_go(begin + day), True)
                self.assertEqual(putby.state(), ("stands", begin + 7, 1, 0))
                self.assertEqual(putby.pay(begin, "ann"), 30)

    def test_of_what_is_gone_given_up_and_sold(self):
        for putby, right in zip(ended_ones(), (True, False, False)):
            for day in (20, 21, 900):
                self.assertIs(putby.would_go(day), right)


class AskingTest(Base):
    def test_asking_changes_nothing_and_tells_the_same(self):
        for putby in ended_ones() + [paid_up(Rule(3, 7, misses=2), 100, [0, 3], 4)]:
            ahead = told_of(putby)
            putby.would_go(350)
            self.assertEqual(told_of(putby), ahead)
            self.assertEqual(told_of(putby), ahead)

    def test_told_lists_are_the_asker_s_own(self):
        putby = paid_up(Rule(3, 7, keep=50), 100, [0, 1])
        putby.give_up(2)
        for ask in (putby.backs, putby.payments):
            one, other = ask(), ask()
            self.assertIsNot(one, other)
            self.assertEqual({type(row) for row in one}, {tuple})
            one.clear()
            self.assertNotEqual(other, [])
            self.assertEqual(ask(), other)

    def test_what_is_done_later_changes_nothing_that_was_told(self):
        putby = paid_up(Rule(3, 7, keep=50), 100, [0])
        payments, backs = putby.payments(), putby.backs()
        putby.pay(1, "bob")
        putby.give_up(2)
        self.assertEqual((payments, backs), ([(0, "ann", 34)], []))

    def test_a_rule_serves_several(self):
        rule = Rule(3, 7, keep=(1, 2, 3))
        one, other = Putby(rule, 100, 0), Putby(rule, 100, 0)
        one.pay(0, "ann")
        self.assertEqual(told_of(other), told_of(Putby(Rule(3, 7, keep=(1, 2, 3)), 100, 0)))
        self.assertEqual(rule, Rule(3, 7, keep=(1, 2, 3)))


class WalkTest(Base):
    """Held against SlowPutby by deeds at random."""

    def random_rule(self, chance):
        parts = chance.randint(1, 4)
        keep = tuple(chance.randint(0, 100) for _ in range(parts)) if chance.random() < 0.5 else chance.randint(0, 100)
        return Rule(parts, chance.randint(1, 4), chance.randint(0, 3), chance.random() < 0.5, chance.randint(0, 2), keep,
                    chance.choice((0, 10, 100)), chance.choice((0, 3, 30)), chance.randint(0, 30))

    def done(self, putby, day, deed):
        """Whether Putby does the deed."""
        try:
            if deed[0] == "pay":
                putby.pay(day, deed[1])
            elif deed[0] == "up":
                putby.give_up(day)
            elif deed[0] == "falls":
                putby.price_falls(day, deed[1])
            else:
                putby.pass_to(day)
        except Idle:
            return False
        return True

    def alike(self, putby, slow):
        now = slow.walked(slow.today)
        stands = now["word"] == "stands"
        state = ("stands", now["due"], now["many"], now["missed"]) if stands else (now["word"], now["ended"])
        last = None
        if stands:
            last = slow.today
            while slow.walked(last + 1)["word"] == "stands":
                last += 1
        pence = sum(row[2] for row in now["coins"])
        self.assertEqual(told_of(putby), (state, now["price"], pence, now["kept"], now["backs"], now["coins"], last))
        for day in (slow.today, slow.today + 1, slow.today + 4, slow.today + 20):
            self.assertIs(putby.would_go(day), slow.walked(day)["word"] == "gone")
        if not stands:
            self.assertEqual(putby.paid(), putby.kept() + sum(row[2] for row in putby.backs()))

    def test_by_deeds_at_random(self):
        chance = random.Random(10)
        ends = set()
        for _ in range(600):
            rule, price, begin = self.random_rule(chance), chance.choice((1, 2, 7, 60, 101)), chance.choice((0, 3))
            putby, slow, day = Putby(rule, price, begin), SlowPutby(rule, price, begin), begin
            for _ in range(7):
                day += chance.choice((0, 0, 1, 1, 2, 5))
                deed = chance.choice((("pay", "ann"), ("pay", "bob"), ("pay", "cat"), ("up",), ("pass",),
                                      ("falls", chance.randint(1, price)), ("falls", chance.randint(1, price + 1))))
                right = slow.do(day, *deed)
                self.assertIs(self.done(putby, day, deed), right)
                if not right:
                    day = slow.today
                self.alike(putby, slow)
                if day > begin:
                    self.refused(putby, NoDay, lambda: putby.pass_to(slow.today - 1))
            ends.add(putby.state()[0])
        self.assertEqual(ends, {"stands", "gone", "up", "sold"})


if __name__ == "__main__":
    unittest.main()
