"""[7], [1] of two rules, and [2] of its functions: what rules show, and where two of them part."""

import itertools
import unittest

from slow import asks_to, rows_to, slow_parted, slow_shown

from partwares.alike import parted, shown, shows_parted
from partwares.courses import row_at_last
from partwares.rules import Rule

# By day 12 each of these is gone or sold too long ago, whatever the row.
SMALL = [
    Rule(parts, step, grace, last, misses, keep, fine, falls, back)
    for parts, step, grace, last, misses in itertools.product((1, 2, 3), (1, 2), (0, 1), (False, True), (0, 1))
    for keep, fine, falls, back in ((0, 0, 0, 0), (100, 7, 3, 0), (tuple(range(90, 90 + parts)), 10, 8, 2))
]
SMALL_ASKS = asks_to(12, 3)


def shows_of(rules, asks):
    """For each rule all that it shows by the asks, in their order."""
    return [[slow_shown(rule, days, end) for days, end in asks] for rule in rules]


def horizon(*rules):
    """A day from whose end on none of the rules can show anything else."""
    return max(row_at_last(rule)[-1] + rule.figures()[8] + 1 for rule in rules)


class ShownTest(unittest.TestCase):
    def told(self, rule, rows):
        for days, end, thing in rows:
            with self.subTest(rule=str(rule), days=days, end=end):
                self.assertEqual(shown(rule, days, end), thing)
                self.assertEqual(shown(rule, tuple(days), end), thing)
                self.assertEqual(shown(end=end, days=days, rule=rule), thing)

    def test_stands(self):
        self.told(Rule(3, 5, 2, keep=(1, 20, 50), fine=5, falls=6, back=4), [
            ([], 0, ("stands", 1, True)), ([], 2, ("stands", 1, True)), ([0], 0, ("stands", 20, True)),
            ([0], 5, ("stands", 20, True)), ([0], 6, ("stands", 20, True)), ([0], 7, ("stands", 20, False)),
            ([0, 0], 6, ("stands", 50, True)), ([0, 0], 7, ("stands", 50, False)), ([0, 0], 12, ("stands", 50, False)),
            ([0, 7], 6, ("stands", 20, True)), ([0, 7], 7, ("stands", 50, False)), ([3], 2, ("stands", 1, True)),
        ])

    def test_falls_of_nought_is_of_day_0(self):
        self.told(Rule(2, 5, 2), [([], 0, ("stands", 0, True)), ([], 1, ("stands", 0, False))])

    def test_falls_of_eight_on_its_last_day_and_a_day_later(self):
        self.told(Rule(3, 5, 2, falls=8), [([0, 0], 8, ("stands", 0, True)), ([0, 0], 9, ("stands", 0, False))])

    def test_gone(self):
        self.told(Rule(3, 5, 2, keep=(1, 20, 98), fine=5, falls=8, back=8), [
            ([], 3, ("gone", 6)), ([], 4, ("gone", 6)), ([], 400, ("gone", 6)), ([3], 3, ("gone", 6)),
            ([0], 8, ("gone", 25)), ([0, 8], 8, ("gone", 25)), ([0, 0], 13, ("gone", 100)),
            ([0, 0, 13], 20, ("gone", 100)),
        ])
        self.told(Rule(1, 5), [([], 1, ("gone", 0))])
        self.told(Rule(1, 5, misses=1), [([], 1, ("stands", 0, False)), ([], 6, ("gone", 0))])

    def test_sold(self):
        self.told(Rule(2, 5, 2, keep=60, back=4), [
            ([0, 0], 0, ("sold", True)), ([0, 0], 3, ("sold", True)), ([0, 0], 4, ("sold", True)),
            ([0, 0], 5, ("sold", False)), ([0, 0], 400, ("sold", False)), ([1, 6], 9, ("sold", True)),
            ([1, 6], 10, ("sold", True)), ([1, 6], 11, ("sold", False)), ([1, 6, 9, 11], 11, ("sold", False)),
            ([1, 6], 5, ("stands", 60, False)),
        ])
        self.told(Rule(1, 5), [([0], 0, ("sold", True)), ([0], 1, ("sold", False))])
        self.told(Rule(1, 5, back=8), [([0], 8, ("sold", True)), ([0], 9, ("sold", False))])

    def test_against_a_walk_through_all_days(self):
        for rule in SMALL[::5]:
            for days, end in SMALL_ASKS[::3]:
                self.assertEqual(shown(rule, days, end), slow_shown(rule, days, end), (str(rule), days, end))

    def test_kinds_and_nothing_is_changed(self):
        days = [0, 1, 2]
        rule = Rule(3, 5, 2, keep=(1, 20, 50), back=2)
        for end, kinds in ((0, [str, int, bool]), (2, [str, bool]), (5, [str, bool])):
            thing = shown(rule, days, end)
            self.assertIs(type(thing), tuple)
            self.assertEqual([type(part) for part in thing], kinds)
        self.assertEqual([type(part) for part in shown(rule, [], 9)], [str, int])
        self.assertEqual(days, [0, 1, 2])


class PartedTest(unittest.TestCase):
    def told(self, one, other, thing):
        with self.subTest(one=str(one), other=str(other)):
            self.assertEqual(parted(one, other), thing)
            self.assertEqual(parted(other, one), thing)
            self.assertEqual(parted(other=other, one=one), thing)

    def test_rules_that_differ_in_one_figure(self):
        rule = Rule(2, 3, 1, keep=(10, 20), fine=5, falls=2, back=2)
        self.told(rule, Rule(1, 3, 1, keep=10, fine=5, falls=2, back=2), ([0], 0))
        self.told(rule, Rule(3, 3, 1, keep=(10, 20, 30), fine=5, falls=2, back=2), ([0, 0], 0))
        # Unpaid it is gone on day 2 by both; of the second part the step is seen.
        self.told(rule, Rule(2, 2, 1, keep=(10, 20), fine=5, falls=2, back=2), ([0], 4))
        self.told(rule, Rule(2, 4, 1, keep=(10, 20), fine=5, falls=2, back=2), ([0], 5))
        self.told(rule, Rule(2, 3, 0, keep=(10, 20), fine=5, falls=2, back=2), ([], 1))
        self.told(rule, Rule(2, 3, 2, keep=(10, 20), fine=5, falls=2, back=2), ([], 2))
        # Paid on day 1 the second part is due on day 3, or from the last on day 4.
        self.told(rule, Rule(2, 3, 1, True, keep=(10, 20), fine=5, falls=2, back=2), ([1], 5))
        self.told(rule, Rule(2, 3, 1, misses=1, keep=(10, 20), fine=5, falls=2, back=2), ([], 2))
        self.told(rule, Rule(2, 3, 1, keep=(11, 20), fine=5, falls=2, back=2), ([], 0))
        self.told(rule, Rule(2, 3, 1, keep=(10, 21), fine=5, falls=2, back=2), ([0], 0))
        self.told(rule, Rule(2, 3, 1, keep=(10, 20), fine=6, falls=2, back=2), ([], 2))
        self.told(rule, Rule(2, 3, 1, keep=(10, 20), fine=5, falls=1, back=2), ([0], 2))
        self.told(rule, Rule(2, 3, 1, keep=(10, 20), fine=5, falls=3, back=2), ([0], 3))
        self.told(rule, Rule(2, 3, 1, keep=(10, 20), fine=5, falls=2, back=1), ([0, 0], 2))
        self.told(rule, Rule(2, 3, 1, keep=(10, 20), fine=5, falls=2, back=3), ([0, 0], 3))

    def test_the_second_miss_parts(self):
        self.told(Rule(1, 3, 1), Rule(1, 3, 1, misses=1), ([], 2))
        self.told(Rule(2, 3, 1, misses=1), Rule(2, 4, 1, misses=1), ([], 5))
        self.told(Rule(1, 3, misses=1), Rule(1, 4, misses=1), ([], 4))

    def test_a_part_paid_ahead_of_its_day_behind_a_miss(self):
        self.told(Rule(3, 5, 2, misses=1), Rule(3, 5, 2, True, misses=1), ([3], 11))
        self.told(Rule(3, 5), Rule(3, 5, last=True), ([0, 0], 6))

    def test_a_percent_that_is_seen_late(self):
        self.told(Rule(3, 5, 2, keep=(0, 0, 90)), Rule(3, 5, 2, keep=(0, 0, 91)), ([0, 0], 0))
        self.told(Rule(3, 5, 2, keep=(100, 100, 50), fine=10), Rule(3, 5, 2, keep=(100, 100, 50), fine=11),
                  ([0, 0], 13))

    def test_rules_alike(self):
        for rule in SMALL + [Rule(3, 5, 2, True, 1, (1, 2, 3), 4, 8, 8), Rule(3, 5, 2, False, 1, 0, 0, 8, 8)]:
            self.told(rule, Rule(*rule.figures()), None)
            self.told(rule, rule, None)

    def test_rules_that_differ_and_yet_show_the_same(self):
        told = (
            # Of one part that may not be missed neither the step nor last matters.
            (Rule(1, 1), Rule(1, 5)), (Rule(1, 3, 2), Rule(1, 3, 2, True)),
            (Rule(1, 3, 2, misses=1), Rule(1, 3, 2, True, 1)),
            # All is kept already.
            (Rule(2, 3, keep=100), Rule(2, 3, keep=100, fine=9)),
            (Rule(2, 3, keep=60, fine=40), Rule(2, 3, keep=60, fine=99)),
            # It stands no more on the days on which a price might fall to it.
            (Rule(1, 3), Rule(1, 3, falls=8)), (Rule(1, 3, 2, falls=2), Rule(1, 3, 2, falls=3)),
            (Rule(2, 3, falls=3), Rule(2, 3, falls=8)),
            (Rule(1, 5, misses=1, falls=5), Rule(1, 5, misses=1, falls=6)),
        )
        for one, other in told:
            self.assertNotEqual(one, other)
            self.told(one, other, None)
            self.assertIsNone(slow_parted(one, other, asks_to(12, 3)))

    def test_the_same_held_against_a_day_more(self):
        self.told(Rule(1, 3, 2, falls=1), Rule(1, 3, 2, falls=2), ([], 2))
        self.told(Rule(2, 3, falls=2), Rule(2, 3, falls=3), ([0], 3))
        self.told(Rule(1, 5, misses=1, falls=4), Rule(1, 5, misses=1, falls=5), ([], 5))

    def test_against_a_search_through_all_short_rows(self):
        self.assertLessEqual(horizon(*SMALL), 12)
        shows = shows_of(SMALL, SMALL_ASKS)
        none = 0
        for at, other_at in itertools.combinations(range(len(SMALL)), 2):
            pairs = enumerate(zip(shows[at], shows[other_at]))
            ask = next((ask for ask, (thing, other) in pairs if thing != other), None)
            expected = None if ask is None else SMALL_ASKS[ask]
            self.assertEqual(parted(SMALL[at], SMALL[other_at]), expected, (str(SMALL[at]), str(SMALL[other_at])))
            none += expected is None
        self.assertGreater(none, 10)

    def test_rules_of_the_upper_bounds_against_such_a_search(self):
        figures = {"parts": 3, "step": 5, "grace": 2, "last": True, "misses": 1, "keep": (10, 20, 30), "fine": 5,
                   "falls": 8}
        figures["back"] = 1
        rule = Rule(**figures)
        asks = asks_to(horizon(rule), 3)
        others = {
            "step": 4, "grace": 1, "last": False, "misses": 0, "keep": (10, 20, 31), "fine": 4, "falls": 7, "back": 2,
        }
        for word, figure in others.items():
            other = Rule(**{**figures, word: figure})
            self.told(rule, other, slow_parted(rule, other, asks))
        # Of as many as three parts, kept whole, no fine is seen: by no row to the end.
        whole, fined = Rule(3, 5, 2, True, 1, 100), Rule(3, 5, 2, True, 1, 100, 1)
        self.told(whole, fined, slow_parted(whole, fined, asks_to(horizon(whole, fined), 3)))
        self.assertIsNone(parted(whole, fined))

    def test_what_is_told_may_be_handed_in_again(self):
        for one, other in itertools.combinations(SMALL[::3], 2):
            told = parted(one, other)
            if told is not None:
                days, end = told
                self.assertIs(type(told), tuple)
                self.assertEqual((type(days), type(end)), (list, int))
                self.assertNotEqual(shown(one, days, end), shown(other, days, end))
                self.assertIs(shows_parted(one, other, told), True)
                self.assertIs(shows_parted(other, one, told), True)

    def test_a_told_list_is_the_asker_s_own(self):
        one, other = Rule(2, 3, back=1), Rule(2, 3, back=2)
        first, second = parted(one, other), parted(one, other)
        self.assertIsNot(first[0], second[0])
        first[0].append(9)
        self.assertEqual((second, parted(one, other)), (([0, 0], 2), ([0, 0], 2)))
        empty = parted(Rule(1, 1, keep=1), Rule(1, 1))
        empty[0].append(9)
        self.assertEqual(parted(Rule(1, 1, keep=1), Rule(1, 1)), ([], 0))

    def test_beyond_the_bounds_nothing_is_refused(self):
        widest = Rule(6, 14, 7, True, 2, 0, 0, 30, 30)
        self.assertIsNone(parted(widest, Rule(6, 14, 7, True, 2, 0, 0, 30, 30)))
        self.assertEqual(parted(widest, Rule(6, 14, 7, True, 2, 0, 0, 30, 29)), ([0] * 6, 30))


class ShowsPartedTest(unittest.TestCase):
    def setUp(self):
        self.one = Rule(2, 3, 1, keep=10, back=2)
        self.other = Rule(2, 3, 1, keep=10, back=5)

    def told(self, thing, right):
        with self.subTest(repr(thing)):
            self.assertIs(shows_parted(self.one, self.other, thing), right)
            self.assertIs(shows_parted(self.other, self.one, thing), right)
            self.assertIs(shows_parted(thing=thing, other=self.other, one=self.one), right)

    def test_the_least_and_later_ones(self):
        self.assertEqual(parted(self.one, self.other), ([0, 0], 3))
        for thing in (([0, 0], 3), ([0, 0], 4), ([0, 0], 5), ([0, 1], 4), ([1, 1], 4), ([0, 4], 7), ([0, 4], 9),
                      ([1, 4], 8),
                      ([0, 0, 0], 3), ([0, 0, 1, 2, 3], 3), ([0] * 40, 5), ([0, 0] + [3] * 38, 3)):
            self.told(thing, True)

    def test_pairs_by_which_they_show_the_same(self):
        for thing in (([0, 0], 2), ([0, 0], 6), ([], 0), ([], 5), ([0], 3), ([0, 5], 8), ([0, 0], 0), ([0, 0], 400),
                      ([0, 4], 6), ([0, 4], 10)):
            self.told(thing, False)

    def test_things_of_other_kinds(self):
        for thing in (None, True, False, 0, 3, "", "([0, 0], 3)", [], (), [[0, 0], 3], [([0, 0], 3)], (([0, 0], 3),),
                      ([0, 0],), (3,), ([0, 0], 3, 3), (3, [0, 0]), ((0, 0), 3), ("00", 3), (None, 3), (0, 3),
                      (True, 3),
                      ([0, 0], "3"), ([0, 0], None), ([0, 0], [3]), ([0, 0], (3,)), ([[0, 0]], 3), ([0, [0]], 3),
                      ([(0,), 0], 3), ([0, "0"], 3), ([None, 0], 3), ([0, None], 3), ([0, 0, "a"], 3), "ab", ["a", "b"],
                      ("a", "b"), ([], []), ((), ()), [[[[[[[[]]]]]]]]):
            self.told(thing, False)

    def test_true_and_false_are_no_days(self):
        self.told(([1, 1], 4), True)
        for thing in (([True, True], 4), ([True, 1], 4), ([1, True], 4), ([False, 0], 3), ([0, False], 3),
                      ([0, 0, True], 3)):
            self.told(thing, False)
        self.one, self.other = Rule(1, 3), Rule(1, 3, back=1)
        self.told(([0], 1), True)
        self.told(([0], True), False)
        self.one, self.other = Rule(1, 3), Rule(1, 3, keep=1)
        self.told(([], 0), True)
        self.told(([], False), False)

    def test_days_that_fall(self):
        self.told(([0, 1, 1, 2], 4), True)
        for thing in (([1, 0], 4), ([0, 1, 0], 4), ([0, 1, 2, 1], 4), ([0, 1, 4, 3], 4)):
            self.told(thing, False)

    def test_days_above_the_end_or_below_nought(self):
        self.told(([0, 0, 3], 3), True)
        for thing in (([0, 0, 4], 3), ([0, 0, 400], 3), ([0, 0, 401], 3), ([-1, 0, 0], 3), ([-1, -1], 3), ([4], 3)):
            self.told(thing, False)

    def test_more_than_forty_days(self):
        self.told(([0] * 40, 3), True)
        self.told(([0] * 41, 3), False)
        self.told(([0] * 500, 3), False)

    def test_an_end_beyond_its_bounds(self):
        self.one, self.other = Rule(2, 3, keep=10), Rule(2, 3, keep=11)
        for end in (0, 1, 200, 400):
            self.told(([], end), True)
        for end in (-1, 401, 10 ** 9):
            self.told(([], end), False)
        self.told(([400], 400), True)
        self.told(([401], 401), False)

    def test_against_all_short_rows(self):
        pairs = [(SMALL[at], SMALL[-1 - at]) for at in range(0, 70, 9)] + [(self.one, self.other)]
        for one, other in pairs:
            for end in (0, 1, 4, 7):
                for days in rows_to(8, 3):
                    right = max(days + [0]) <= end and slow_shown(one, days, end) != slow_shown(other, days, end)
                    self.assertIs(shows_parted(one, other, (days, end)), right, (str(one), str(other), days, end))

    def test_nothing_is_changed(self):
        for thing in (([0, 0], 3), ([1, 0], 4), [[0, 0], 3]):
            before = repr(thing)
            shows_parted(self.one, self.other, thing)
            self.assertEqual(repr(thing), before)


if __name__ == "__main__":
    unittest.main()
