"""[8], and [2] of its functions: prices by days."""

import itertools
import unittest

from partwares.prices import are_prices, falls_of, least_since, price_on

MOST = 10 ** 6
PRICES = [(3, 500), (10, 400), (12, 400), (20, 450), (400, 1)]


class ArePricesTest(unittest.TestCase):
    def told(self, thing, right):
        with self.subTest(repr(thing)):
            self.assertIs(are_prices(thing), right)
            self.assertIs(are_prices(thing=thing), right)

    def test_none_one_and_many_pairs(self):
        for pairs in ([], [(0, 1)], [(400, MOST)], [(5, 7), (6, 7)], [(0, 9), (1, 8), (400, 9)], PRICES):
            self.told(pairs, True)
            self.told(tuple(pairs), True)

    def test_of_any_many(self):
        for many in (39, 40, 41, 401):
            self.told([(day, 5) for day in range(many)], True)
            self.told(tuple((day, 5) for day in range(many)), True)

    def test_days_that_do_not_rise(self):
        for pairs in ([(5, 7), (5, 8)], [(5, 7), (5, 7)], [(6, 7), (5, 7)], [(0, 1), (9, 1), (8, 1)],
                      [(0, 1), (0, 1), (8, 1)],
                      [(1, 1), (2, 1), (3, 1), (3, 1)], [(400, 1), (0, 1)]):
            self.told(pairs, False)
            self.told(tuple(pairs), False)

    def test_days_and_pence_beyond_their_bounds(self):
        for pair in ((-1, 5), (401, 5), (5, 0), (5, -1), (5, MOST + 1), (10 ** 9, 5), (5, 10 ** 12)):
            self.told([pair], False)
            self.told((pair,), False)
        self.told([(0, 5), (401, 5)], False)
        self.told([(-1, 5), (4, 5)], False)
        self.told([(0, 5), (4, 0)], False)
        self.told([(0, MOST + 1), (4, 1)], False)

    def test_other_kinds(self):
        for thing in (None, True, False, 0, 1, 5, -1, "", "ab", "[]", "(0, 1)", (0, 1), [0, 1], [0], [None], [True],
                      ["ab"], [()],
                      [[]], [(5,)], [(5, 7, 9)], [(5, None)], [(None, 5)], [("5", 7)], [(5, "7")], [([5], 7)],
                      [(5, [7])],
                      [((5,), (7,))], [(5, 7), None], [(5, 7), 6], [(5, 7), ()], [[(5, 7)]], ((5, 7), 8),
                      [[[[[[[[]]]]]]]]):
            self.told(thing, False)

    def test_lists_in_the_place_of_pairs(self):
        for thing in ([[5, 7]], ([5, 7],), [(5, 7), [6, 7]], [[5, 7], (6, 7)]):
            self.told(thing, False)

    def test_true_and_false_are_no_numbers(self):
        for thing in ([(True, 7)], [(False, 7)], [(5, True)], [(0, 7), (True, 7)], [(0, 5), (2, True)]):
            self.told(thing, False)

    def test_nothing_is_changed(self):
        for thing in ([(5, 7), (6, 8)], [[5, 7]], [(6, 7), (5, 7)]):
            before = repr(thing)
            are_prices(thing)
            self.assertEqual(repr(thing), before)


class PriceOnTest(unittest.TestCase):
    def test_ahead_on_between_and_behind(self):
        told = {
            0: None, 2: None, 3: 500, 4: 500, 9: 500, 10: 400, 11: 400, 12: 400, 13: 400, 19: 400, 20: 450, 21: 450,
            399: 450, 400: 1, 401: 1,
        }
        for day, pence in told.items():
            with self.subTest(day):
                self.assertEqual(price_on(PRICES, day), pence)
                self.assertEqual(price_on(tuple(PRICES), day), pence)
                self.assertEqual(price_on(day=day, prices=PRICES), pence)

    def test_of_none(self):
        for day in (0, 400):
            self.assertIsNone(price_on([], day))
            self.assertIsNone(price_on((), day))

    def test_on_day_0(self):
        self.assertEqual(price_on([(0, MOST)], 0), MOST)
        self.assertIsNone(price_on([(1, MOST)], 0))


class FallsOfTest(unittest.TestCase):
    def test_where_prices_rise_stay_and_fall(self):
        told = (
            ([], []), ([(0, 5)], []), ([(0, 5), (1, 4)], [(1, 4)]), ([(0, 5), (1, 5)], []), ([(0, 5), (1, 6)], []),
            (PRICES, [(10, 400), (400, 1)]), ([(0, 5), (1, 4), (2, 3)], [(1, 4), (2, 3)]),
            ([(0, 5), (1, 9), (2, 8), (3, 8), (4, 7), (5, 9)], [(2, 8), (4, 7)]),
            # Less than the one ahead, not less than all ahead of it.
            ([(0, 3), (1, 9), (2, 5)], [(2, 5)]), ([(0, 9), (1, 3), (2, 5)], [(1, 3)]),
        )
        for prices, falls in told:
            with self.subTest(prices):
                self.assertEqual(falls_of(prices), falls)
                self.assertEqual(falls_of(prices=tuple(prices)), falls)

    def test_a_told_list_is_the_asker_s_own(self):
        for prices in ([], [(0, 5)], [(0, 5), (1, 4)], tuple(PRICES)):
            before = list(prices)
            one, other = falls_of(prices), falls_of(prices)
            self.assertEqual((type(one), one), (list, other))
            self.assertIsNot(one, other)
            self.assertIsNot(one, prices)
            one.append((400, 1))
            one[0] = (7, 7)
            self.assertEqual(falls_of(prices), other)
            self.assertEqual(list(prices), before)

    def test_nothing_done_later_changes_it(self):
        prices = [(0, 5), (1, 4)]
        told = falls_of(prices)
        prices.append((2, 3))
        prices[1] = (1, 5)
        self.assertEqual(told, [(1, 4)])

    def test_it_may_be_handed_in_again(self):
        self.assertIs(are_prices(falls_of(PRICES)), True)
        self.assertTrue(all(type(pair) is tuple for pair in falls_of(PRICES)))
        self.assertEqual(price_on(falls_of(PRICES), 12), 400)


class LeastSinceTest(unittest.TestCase):
    def test_stretches(self):
        told = (
            # Ahead of the first price, to its day, and behind it.
            (0, 0, None), (0, 2, None), (2, 0, None), (0, 3, 500), (2, 1, 500), (3, 0, 500), (3, 6, 500), (3, 7, 400),
            (0, 9, 500), (0, 10, 400), (0, 20, 400),
            # One price, begun ahead of the stretch.
            (4, 2, 500), (9, 0, 500), (9, 1, 400), (15, 3, 400), (20, 0, 450), (21, 100, 450), (19, 1, 400),
            (19, 300, 400),
            # All of them; the last day; beyond it.
            (0, 400, 1), (0, 399, 400), (20, 379, 450), (20, 380, 1), (400, 0, 1), (400, 400, 1), (30, 400, 1),
            (399, 0, 450),
        )
        for begin, within, pence in told:
            with self.subTest(begin=begin, within=within):
                self.assertEqual(least_since(PRICES, begin, within), pence)
                self.assertEqual(least_since(tuple(PRICES), begin, within), pence)
                self.assertEqual(least_since(within=within, begin=begin, prices=PRICES), pence)

    def test_of_none(self):
        for begin, within in itertools.product((0, 400), (0, 400)):
            self.assertIsNone(least_since([], begin, within))
            self.assertIsNone(least_since((), begin, within))

    def test_against_each_day(self):
        for prices in ([(2, 5)], [(0, 9), (3, 4), (5, 6)], [(1, 2), (2, 3), (6, 1)], [(4, 7), (5, 7), (6, 9), (8, 8)]):
            for begin, within in itertools.product(range(10), range(10)):
                on_days = []
                for day in range(begin, begin + within + 1):
                    on_days += [pence for at, pence in prices if at <= day][-1:]
                with self.subTest(prices=prices, begin=begin, within=within):
                    self.assertEqual(least_since(prices, begin, within), min(on_days, default=None))

    def test_nothing_is_changed(self):
        prices = list(PRICES)
        least_since(prices, 0, 400)
        price_on(prices, 10)
        falls_of(prices)
        self.assertEqual(prices, PRICES)


if __name__ == "__main__":
    unittest.main()
