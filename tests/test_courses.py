"""[6], [1] of the last day, and [2] of its functions: what comes of a row of days."""

import itertools
import unittest

from slow import rows_to, slow_course

from partwares.courses import course, last_day, row_at_last
from partwares.rules import Rule

ALL_BOUNDS = [
    Rule(*figures) for figures in itertools.product((1, 2, 6), (1, 14), (0, 7), (False, True), (0, 1, 2))
]
SMALL = [
    Rule(*figures) for figures in itertools.product((1, 2, 3), (1, 2, 3), (0, 1, 4), (False, True), (0, 1, 2))
]
ROWS = rows_to(6, 3) + [[0, 0, 0, 0], [0, 1, 2, 3], [0, 2, 2, 9, 9], [5, 5, 5, 5, 400], [0, 3, 6, 9, 12], [7], [0, 8]]


class CourseTest(unittest.TestCase):
    def told(self, rule, rows):
        for days, end, state in rows:
            with self.subTest(rule=str(rule), days=days, end=end):
                self.assertEqual(course(rule, days, end), state)
                self.assertEqual(course(rule, tuple(days), end), state)
                self.assertEqual(course(end=end, days=days, rule=rule), state)

    def test_no_days(self):
        self.told(Rule(3, 7, grace=2), [
            ([], 0, ("stands", 0, 0, 0)), ([], 1, ("stands", 0, 0, 0)), ([], 2, ("stands", 0, 0, 0)),
            ([], 3, ("gone", 3, 0, 0)), ([], 4, ("gone", 3, 0, 0)), ([], 400, ("gone", 3, 0, 0)),
        ])
        self.told(Rule(1, 1), [([], 0, ("stands", 0, 0, 0)), ([], 1, ("gone", 1, 0, 0)), ([], 2, ("gone", 1, 0, 0))])

    def test_no_days_with_misses(self):
        self.told(Rule(3, 7, grace=2, misses=1), [
            ([], 2, ("stands", 0, 0, 0)), ([], 3, ("stands", 7, 0, 1)), ([], 9, ("stands", 7, 0, 1)),
            ([], 10, ("gone", 10, 0, 1)), ([], 11, ("gone", 10, 0, 1)),
        ])
        self.told(Rule(3, 7, grace=2, misses=2), [
            ([], 2, ("stands", 0, 0, 0)), ([], 3, ("stands", 7, 0, 1)), ([], 9, ("stands", 7, 0, 1)),
            ([], 10, ("stands", 14, 0, 2)), ([], 16, ("stands", 14, 0, 2)), ([], 17, ("gone", 17, 0, 2)),
            ([], 400, ("gone", 17, 0, 2)),
        ])

    def test_all_parts_on_day_0(self):
        for parts in range(1, 7):
            for last in (False, True):
                rule = Rule(parts, 7, last=last)
                rows = [([0] * parts, end, ("sold", 0, parts, 0)) for end in (0, 1, 400)]
                rows += [([0] * many, 0, ("stands", 7 * min(many, 1) if last else 7 * many, many, 0))
                         for many in range(parts)]
                self.told(rule, rows)

    def test_a_part_ahead_of_its_day_on_it_in_the_grace_and_behind_it(self):
        self.told(Rule(3, 7, grace=2), [
            ([0], 0, ("stands", 7, 1, 0)), ([0, 3], 3, ("stands", 14, 2, 0)), ([0, 7], 7, ("stands", 14, 2, 0)),
            ([0, 9], 9, ("stands", 14, 2, 0)), ([0, 10], 10, ("gone", 10, 1, 0)), ([2], 2, ("stands", 7, 1, 0)),
            ([3], 3, ("gone", 3, 0, 0)), ([0, 9], 16, ("stands", 14, 2, 0)), ([0, 9], 17, ("gone", 17, 2, 0)),
            ([0, 3, 16], 16, ("sold", 16, 3, 0)), ([0, 3, 17], 17, ("gone", 17, 2, 0)),
        ])

    def test_the_same_with_last(self):
        self.told(Rule(3, 7, grace=2, last=True), [
            ([0], 0, ("stands", 7, 1, 0)), ([0, 3], 3, ("stands", 10, 2, 0)), ([0, 7], 7, ("stands", 14, 2, 0)),
            ([0, 9], 9, ("stands", 16, 2, 0)), ([0, 10], 10, ("gone", 10, 1, 0)), ([2], 2, ("stands", 9, 1, 0)),
            ([3], 3, ("gone", 3, 0, 0)), ([0, 9], 18, ("stands", 16, 2, 0)), ([0, 9], 19, ("gone", 19, 2, 0)),
            ([0, 3, 12], 12, ("sold", 12, 3, 0)), ([0, 3, 13], 13, ("gone", 13, 2, 0)),
        ])

    def test_misses_are_counted_of_all_parts(self):
        self.told(Rule(3, 7, grace=2, misses=1), [
            ([0, 10], 9, ("stands", 7, 1, 0)), ([0, 10], 10, ("stands", 21, 2, 1)), ([0, 10], 23, ("stands", 21, 2, 1)),
            ([0, 10], 24, ("gone", 24, 2, 1)), ([3], 3, ("stands", 14, 1, 1)), ([3], 16, ("stands", 14, 1, 1)),
            ([3], 17, ("gone", 17, 1, 1)), ([3, 17], 17, ("gone", 17, 1, 1)), ([3, 16, 23], 23, ("sold", 23, 3, 1)),
        ])
        self.told(Rule(3, 7, grace=2, last=True, misses=1), [
            ([0, 10], 10, ("stands", 17, 2, 1)), ([0, 10], 19, ("stands", 17, 2, 1)), ([0, 10], 20, ("gone", 20, 2, 1)),
            ([3], 3, ("stands", 10, 1, 1)), ([3], 12, ("stands", 10, 1, 1)), ([3], 13, ("gone", 13, 1, 1)),
        ])
        self.told(Rule(3, 7, misses=2), [
            ([1, 15], 1, ("stands", 14, 1, 1)), ([1, 15], 14, ("stands", 14, 1, 1)),
            ([1, 15], 15, ("stands", 28, 2, 2)),
            ([1, 15, 28], 28, ("sold", 28, 3, 2)), ([1, 15, 29], 29, ("gone", 29, 2, 2)),
            ([8], 8, ("stands", 21, 1, 2)), ([15], 15, ("gone", 15, 0, 2)), ([1], 400, ("gone", 22, 1, 2)),
        ])

    def test_gone_then_more_days(self):
        self.told(Rule(2, 5, grace=1), [
            ([2, 3, 4], 400, ("gone", 2, 0, 0)), ([0, 7], 7, ("gone", 7, 1, 0)), ([0, 7, 7, 8], 8, ("gone", 7, 1, 0)),
            ([0, 9], 400, ("gone", 7, 1, 0)), ([0] + [9] * 39, 9, ("gone", 7, 1, 0)),
        ])

    def test_sold_then_more_days(self):
        self.told(Rule(2, 5, grace=1), [
            ([0, 4, 4], 4, ("sold", 4, 2, 0)), ([0, 4, 9, 400], 400, ("sold", 4, 2, 0)),
            ([0, 4], 400, ("sold", 4, 2, 0)),
            ([0] * 40, 0, ("sold", 0, 2, 0)),
        ])

    def test_days_behind_the_end_are_left_aside(self):
        self.told(Rule(3, 7, grace=2), [
            ([0, 5, 9], 0, ("stands", 7, 1, 0)), ([0, 5, 9], 4, ("stands", 7, 1, 0)),
            ([0, 5, 9], 5, ("stands", 14, 2, 0)),
            ([0, 5, 9], 8, ("stands", 14, 2, 0)), ([0, 5, 9], 9, ("sold", 9, 3, 0)),
            ([1, 1, 1], 0, ("stands", 0, 0, 0)),
            ([400], 2, ("stands", 0, 0, 0)), ([400], 3, ("gone", 3, 0, 0)),
        ])

    def test_grace_longer_than_a_step(self):
        self.told(Rule(3, 2, grace=7, misses=1), [
            ([], 7, ("stands", 0, 0, 0)), ([], 8, ("stands", 2, 0, 1)), ([], 9, ("stands", 2, 0, 1)),
            ([], 10, ("gone", 10, 0, 1)), ([7], 7, ("stands", 2, 1, 0)), ([7], 10, ("stands", 4, 1, 1)),
            ([9, 11, 13], 13, ("sold", 13, 3, 1)), ([9, 12], 12, ("gone", 12, 1, 1)),
        ])

    def test_against_a_walk_through_all_days(self):
        for rule in SMALL:
            for days in ROWS:
                for end in (0, 1, 2, 3, 5, 8, 13, 40):
                    self.assertEqual(course(rule, days, end), slow_course(rule, days, end), (str(rule), days, end))

    def test_rules_of_all_bounds_against_a_walk(self):
        rows = ([], [0], [0, 0], [0, 14], [7, 14], [0, 8, 30], [35, 56, 77, 98, 119, 140], [0, 14, 28, 42, 56, 70, 84])
        for rule in ALL_BOUNDS:
            for days in rows:
                for end in range(0, 160, 3):
                    self.assertEqual(course(rule, days, end), slow_course(rule, days, end), (str(rule), days, end))

    def test_kinds_and_nothing_is_changed(self):
        days = [0, 3, 9]
        rule = Rule(3, 7, grace=2)
        state = course(rule, days, 5)
        self.assertEqual([type(thing) for thing in state], [str, int, int, int])
        self.assertIs(type(state), tuple)
        self.assertEqual(days, [0, 3, 9])
        self.assertEqual(course(rule, days, 5), state)
        days.append(400)
        self.assertEqual(state, ("stands", 14, 2, 0))

    def test_beyond_the_bounds_nothing_is_refused(self):
        self.assertEqual(course(Rule(2, 3), [0] * 60, 900), ("sold", 0, 2, 0))
        self.assertEqual(course(Rule(2, 3), [500], 10 ** 6), ("gone", 1, 0, 0))


class LastDayTest(unittest.TestCase):
    def told(self, rule, rows):
        for days, day in rows:
            with self.subTest(rule=str(rule), days=days):
                self.assertEqual(last_day(rule, days), day)
                self.assertEqual(last_day(days=tuple(days), rule=rule), day)

    def test_days(self):
        self.told(Rule(3, 7, grace=2), [
            ([], 2), ([0], 9), ([2], 9), ([0, 3], 16), ([0, 9], 16), ([3], None), ([0, 10], None), ([0, 0, 0], None),
            ([0, 0, 16], None), ([0, 0, 17], None), ([0, 0, 0, 5], None), ([3, 3, 3], None),
        ])
        self.told(Rule(3, 7, grace=2, last=True), [([], 2), ([2], 11), ([0, 3], 12), ([0, 9], 18), ([0, 10], None)])
        self.told(Rule(3, 7, grace=2, misses=1), [([], 9), ([0], 16), ([3], 16), ([9], 16), ([0, 0], 23), ([10], None)])
        self.told(Rule(3, 7, grace=2, last=True, misses=2), [([], 16), ([0], 23), ([3], 19), ([10], 19), ([16], 25)])
        self.told(Rule(1, 1), [([], 0), ([0], None), ([1], None), ([0, 0], None)])

    def test_each_one_a_day_earlier_on_it_and_a_day_later(self):
        tried = 0
        for rule in SMALL:
            for days in ROWS:
                as_of = days[-1] if days else 0
                last = last_day(rule, days)
                word, _, paid, _ = slow_course(rule, days, as_of)
                if word != "stands":
                    self.assertIsNone(last, (str(rule), days))
                    continue
                self.assertGreaterEqual(last, as_of, (str(rule), days))
                for day in range(max(as_of, last - 1), last + 1):
                    self.assertNotEqual(course(rule, days + [day], day)[0], "gone", (str(rule), days))
                    self.assertEqual(course(rule, days + [day], day)[2], paid + 1, (str(rule), days))
                later = course(rule, days + [last + 1], last + 1)
                self.assertEqual((later[:3]), ("gone", last + 1, paid), (str(rule), days))
                self.assertEqual(course(rule, days, last)[0], "stands", (str(rule), days))
                tried += 1
        self.assertGreater(tried, 1000)

    def test_kinds_and_nothing_is_changed(self):
        days = [0, 3]
        self.assertIs(type(last_day(Rule(3, 7), days)), int)
        self.assertEqual(days, [0, 3])
        self.assertEqual(last_day(Rule(3, 7), days), last_day(Rule(3, 7), days))


class RowAtLastTest(unittest.TestCase):
    def test_rows(self):
        told = (
            (Rule(1, 1), [0]), (Rule(1, 14, 7, True, 2), [35]), (Rule(3, 7), [0, 7, 14]), (Rule(3, 7, 2), [2, 9, 16]),
            (Rule(3, 7, 2, True), [2, 11, 20]), (Rule(3, 7, 2, False, 1), [9, 16, 23]),
            (Rule(3, 7, 2, True, 1), [9, 18, 27]), (Rule(2, 5, 0, False, 2), [10, 15]), (Rule(2, 1, 7), [7, 8]),
            (Rule(2, 1, 7, True), [7, 15]), (Rule(6, 14, 7, True, 2), [35, 56, 77, 98, 119, 140]),
            (Rule(6, 14, 7, False, 2), [35, 49, 63, 77, 91, 105]),
        )
        for rule, days in told:
            with self.subTest(str(rule)):
                self.assertEqual(row_at_last(rule), days)
                self.assertEqual(row_at_last(rule=rule), days)

    def test_each_part_a_day_earlier_on_it_and_a_day_later(self):
        for rule in ALL_BOUNDS + SMALL:
            days = row_at_last(rule)
            with self.subTest(str(rule)):
                self.assertEqual(len(days), len(rule))
                self.assertEqual(course(rule, days, days[-1])[:3], ("sold", days[-1], len(rule)))
                for at, day in enumerate(days):
                    ahead = days[:at]
                    self.assertEqual(last_day(rule, ahead), day)
                    self.assertEqual(slow_course(rule, ahead + [day], day)[2], at + 1)
                    self.assertEqual(course(rule, ahead + [day + 1], day + 1)[:3], ("gone", day + 1, at))
                    if day > max([0] + ahead):
                        self.assertEqual(course(rule, ahead + [day - 1], day - 1)[2], at + 1)

    def test_a_told_list_is_the_asker_s_own(self):
        rule = Rule(3, 7, 2)
        one, other = row_at_last(rule), row_at_last(rule)
        self.assertIs(type(one), list)
        self.assertIsNot(one, other)
        one.append(99)
        one[0] = 5
        self.assertEqual((other, row_at_last(rule)), ([2, 9, 16], [2, 9, 16]))


if __name__ == "__main__":
    unittest.main()
