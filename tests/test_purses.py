"""[9], and [2] of its functions: what to pay of a purse."""

import itertools
import random
import unittest

from partwares.purses import can_pay, most_paid, short_of


def all_lists(wants):
    """All rising lists of names of the wants."""
    names = sorted(want[0] for want in wants)
    return [list(row) for many in range(len(names) + 1) for row in itertools.combinations(names, many)]


def slow_can_pay(wants, incomes, names):
    """As can_pay: day by day, what is due at the end of a day goes out of the purse."""
    purse = 0
    chosen = [want for want in wants if want[0] in names]
    days = [want[2] for want in wants] + [day for day, _ in incomes]
    for day in range(max(days, default=0) + 1):
        purse += sum(pence for come, pence in incomes if come == day)
        purse -= sum(pence for _, pence, last in chosen if last == day)
        if purse < 0:
            return False
    return True


def slow_most_paid(wants, incomes):
    """As most_paid, by a search through all lists of names."""
    rows = [row for row in all_lists(wants) if slow_can_pay(wants, incomes, row)]
    return min(rows, key=lambda row: (-len(row), row))


def random_purse(chance, most):
    """Wants and incomes of small numbers, so that many lists are equally long."""
    names = chance.sample(["a", "b", "c", "d", "e", "ab", "ba", "z", "zz", "az"], chance.randint(0, most))
    wants = [(name, chance.randint(1, 6), chance.randint(0, 7)) for name in names]
    incomes = [(chance.randint(0, 8), chance.randint(0, 7)) for _ in range(chance.randint(0, 5))]
    return wants, incomes


class CanPayTest(unittest.TestCase):
    WANTS = [("a", 10, 5), ("b", 7, 9), ("c", 20, 5)]

    def told(self, wants, incomes, names, right):
        with self.subTest(wants=wants, incomes=incomes, names=names):
            self.assertIs(can_pay(wants, incomes, names), right)
            self.assertIs(can_pay(names=tuple(names), incomes=tuple(incomes), wants=tuple(wants)), right)

    def test_none(self):
        self.told([], [], [], True)
        self.told(self.WANTS, [], [], True)
        self.told([], [(0, 5)], [], True)

    def test_all_and_a_penny_less(self):
        self.told(self.WANTS, [(0, 37)], ["a", "b", "c"], True)
        self.told(self.WANTS, [(0, 36)], ["a", "b", "c"], False)
        self.told(self.WANTS, [(0, 37)], ["c", "b", "a"], True)

    def test_alone_but_not_together(self):
        for names, right in ((["a"], True), (["b"], True), (["c"], True), (["a", "b"], True), (["b", "c"], False),
                             (["a", "c"], False)):
            self.told(self.WANTS, [(0, 20)], names, right)

    def test_together_with_what_comes_later(self):
        self.told(self.WANTS, [(0, 10), (9, 7)], ["a", "b"], True)
        self.told(self.WANTS, [(0, 10), (9, 6)], ["a", "b"], False)
        self.told(self.WANTS, [(0, 17)], ["a", "b"], True)
        self.told(self.WANTS, [(9, 100)], ["a", "b"], False)
        self.told(self.WANTS, [(9, 100)], ["b"], True)

    def test_income_on_the_very_last_day_and_a_day_later(self):
        self.told([("a", 10, 5)], [(5, 10)], ["a"], True)
        self.told([("a", 10, 5)], [(6, 10)], ["a"], False)
        self.told([("a", 10, 0)], [(0, 10)], ["a"], True)
        self.told([("a", 10, 0)], [(1, 10)], ["a"], False)
        self.told([("a", 10, 5)], [(5, 9), (6, 1)], ["a"], False)

    def test_several_incomes_of_one_day_in_any_order(self):
        incomes = [(5, 3), (2, 0), (5, 3), (0, 4), (9, 7)]
        for row in itertools.permutations(incomes):
            self.told(self.WANTS, list(row), ["a", "b"], True)
            self.told(self.WANTS, list(row), ["a", "c"], False)
        self.told(self.WANTS, [(5, 3), (5, 3), (0, 3), (9, 8)], ["a", "b"], False)

    def test_last_days_beyond_400_and_great_sums(self):
        self.told([("a", 10 ** 6, 9999)], [(9999, 10 ** 6)], ["a"], True)
        self.told([("a", 10 ** 6, 9999)], [(10000, 10 ** 6)], ["a"], False)
        wants = [("a" * many, 10 ** 6, 400) for many in range(1, 9)]
        self.told(wants, [(400, 10 ** 9)] * 40, [want[0] for want in wants], True)
        self.told(wants, [(400, 8 * 10 ** 6 - 1)], [want[0] for want in wants], False)

    def test_against_a_walk_through_the_days(self):
        chance = random.Random(9)
        seen = set()
        for _ in range(400):
            wants, incomes = random_purse(chance, 5)
            for names in all_lists(wants):
                right = slow_can_pay(wants, incomes, names)
                seen.add(right)
                self.assertIs(can_pay(wants, incomes, names), right, (wants, incomes, names))
        self.assertEqual(seen, {True, False})


class MostPaidTest(unittest.TestCase):
    def told(self, wants, incomes, names):
        with self.subTest(wants=wants, incomes=incomes):
            self.assertEqual(most_paid(wants, incomes), names)
            self.assertEqual(most_paid(incomes=tuple(incomes), wants=tuple(wants)), names)
            self.assertIs(type(most_paid(wants, incomes)), list)

    def test_none_that_can_be_paid(self):
        self.told([], [], [])
        self.told([], [(0, 9)], [])
        self.told([("a", 1, 5)], [], [])
        self.told([("a", 10, 5), ("b", 11, 400)], [(0, 9), (401, 9)], [])

    def test_all_by_rising_names(self):
        self.told([("z", 1, 1), ("b", 1, 2), ("ab", 1, 3), ("a", 1, 4)], [(0, 4)], ["a", "ab", "b", "z"])

    def test_as_many_as_can_be(self):
        self.told([("a", 10, 5), ("b", 4, 5), ("c", 6, 5)], [(0, 10)], ["b", "c"])
        self.told([("a", 10, 5), ("b", 4, 5), ("c", 7, 5)], [(0, 10)], ["a"])
        self.told([("a", 9, 9), ("b", 4, 5), ("c", 6, 5)], [(0, 10), (9, 9)], ["a", "b", "c"])

    def test_the_first_of_equally_many(self):
        self.told([("a", 5, 1), ("b", 5, 1), ("c", 5, 1)], [(0, 10)], ["a", "b"])
        self.told([("c", 5, 1), ("b", 5, 1), ("a", 8, 1)], [(0, 10)], ["b", "c"])
        self.told([("c", 2, 1), ("b", 5, 1), ("a", 8, 1)], [(0, 10)], ["a", "c"])
        self.told([("a", 10, 1), ("b", 1, 1)], [(0, 10)], ["a"])
        self.told([("ab", 3, 1), ("b", 3, 1), ("a", 3, 9)], [(0, 3)], ["a"])
        self.told([("ab", 3, 1), ("b", 3, 1), ("a", 3, 9)], [(0, 3), (9, 3)], ["a", "ab"])

    def test_a_want_of_a_later_last_day_is_not_taken_ahead_of_its_time(self):
        self.told([("a", 4, 9), ("b", 3, 2), ("c", 3, 2)], [(0, 6), (5, 4)], ["a", "b", "c"])
        self.told([("a", 4, 9), ("b", 3, 2), ("c", 3, 2)], [(0, 6), (5, 3)], ["a", "b"])

    def test_against_a_search_through_all_lists(self):
        chance = random.Random(5)
        alike = 0
        for _ in range(500):
            wants, incomes = random_purse(chance, 7)
            names = slow_most_paid(wants, incomes)
            self.assertEqual(most_paid(wants, incomes), names, (wants, incomes))
            self.assertTrue(can_pay(wants, incomes, names))
            alike += sum(len(row) == len(names) and slow_can_pay(wants, incomes, row) for row in all_lists(wants)) > 1
        self.assertGreater(alike, 50)

    def test_twenty_four_wants(self):
        names = [one + other for one in "abcd" for other in "abcdef"]
        wants = [(name, 1000 + at, 10 + at) for at, name in enumerate(names)]
        self.told(wants, [(0, 10 ** 6)], names)
        self.told(wants, [(0, 12 * 1024)], names[:12])
        self.told(wants[::-1], [(5, 12 * 1024)], names[:12])
        self.told(wants, [(33, 10 ** 6)], [names[-1]])
        alike = [(name, 7, 400 + at % 3) for at, name in enumerate(names)]
        self.told(alike, [(0, 7 * 11), (401, 6)], names[:11])
        self.told(alike, [(0, 7 * 11), (401, 7)], names[:12])
        mixed = [(name, 10 ** 6 if at % 2 == 0 else 3, at) for at, name in enumerate(names)]
        self.told(mixed, [(0, 36)], names[1::2])
        self.told(mixed, [(0, 10 ** 6 + 33)], [names[0]] + names[1:-2:2])


class ShortOfTest(unittest.TestCase):
    def told(self, wants, incomes, pairs):
        with self.subTest(wants=wants, incomes=incomes):
            self.assertEqual(short_of(wants, incomes), pairs)
            self.assertEqual(short_of(incomes=tuple(incomes), wants=tuple(wants)), pairs)
            self.assertTrue(all(type(pair) is tuple for pair in short_of(wants, incomes)))

    def test_none_short(self):
        self.told([], [], [])
        self.told([], [(0, 7)], [])
        self.told([("a", 10, 5)], [(5, 10)], [])
        self.told([("a", 10, 5), ("b", 7, 9)], [(9, 7), (0, 10)], [])

    def test_one_to_the_penny(self):
        self.told([("a", 10, 5)], [(5, 9)], [(5, 1)])
        self.told([("a", 10, 5)], [(6, 10)], [(5, 10)])
        self.told([("a", 10, 5)], [], [(5, 10)])
        self.told([("a", 10, 5), ("b", 7, 9)], [(9, 7), (0, 9)], [(5, 1), (9, 1)])
        self.told([("a", 10, 5), ("b", 7, 9)], [(6, 8), (0, 9)], [(5, 1)])
        self.told([("a", 10, 5), ("b", 7, 9)], [(0, 16)], [(9, 1)])

    def test_several_last_days_alike_are_one(self):
        self.told([("a", 10, 5), ("b", 7, 5), ("c", 1, 5)], [(0, 10)], [(5, 8)])
        self.told([("a", 10, 5), ("b", 7, 5), ("c", 1, 2)], [(0, 10)], [(5, 8)])

    def test_by_rising_days_whatever_the_order(self):
        wants = [("c", 5, 700), ("a", 10, 30), ("b", 7, 9)]
        for row in itertools.permutations(wants):
            self.told(list(row), [(31, 1), (10, 2), (0, 3)], [(9, 4), (30, 12), (700, 16)])

    def test_what_is_short_tells_whether_all_can_be_paid(self):
        chance = random.Random(4)
        for _ in range(300):
            wants, incomes = random_purse(chance, 6)
            pairs = short_of(wants, incomes)
            self.assertIs(pairs == [], slow_can_pay(wants, incomes, [want[0] for want in wants]))
            for day, pence in pairs:
                due = sum(want[1] for want in wants if want[2] <= day)
                self.assertEqual(pence, due - sum(come[1] for come in incomes if come[0] <= day))


class OwnTest(unittest.TestCase):
    def test_nothing_handed_in_is_changed(self):
        wants, incomes, names = [("b", 5, 9), ("a", 5, 2)], [(9, 5), (0, 5)], ["b", "a"]
        can_pay(wants, incomes, names)
        most_paid(wants, incomes)
        short_of(wants, incomes)
        self.assertEqual(wants, [("b", 5, 9), ("a", 5, 2)])
        self.assertEqual((incomes, names), ([(9, 5), (0, 5)], ["b", "a"]))

    def test_what_is_told_is_the_asker_s_own_and_may_be_handed_in_again(self):
        wants, incomes = [("b", 5, 9), ("a", 5, 2)], [(0, 5)]
        for ask, right in ((most_paid, ["a"]), (short_of, [(9, 5)])):
            one, other = ask(wants, incomes), ask(wants, incomes)
            self.assertIsNot(one, other)
            one.append("x")
            self.assertEqual(other, right)
            self.assertEqual(ask(wants, incomes), right)
        self.assertTrue(can_pay(wants, incomes, most_paid(wants, incomes)))
        self.assertEqual(short_of(wants, incomes + short_of(wants, incomes)), [])


if __name__ == "__main__":
    unittest.main()
