"""[4], [5] as far as [4] needs it, and [2] of the class Rule."""

import unittest

from partwares.errors import BadRule
from partwares.rules import Rule

NAMES = ("parts", "step", "grace", "last", "misses", "keep", "fine", "falls", "back")
BOUNDS = {
    "parts": (1, 6), "step": (1, 14), "grace": (0, 7), "misses": (0, 2), "keep": (0, 100), "fine": (0, 100),
    "falls": (0, 30), "back": (0, 30),
}
NO_NUMBERS = (True, False, None, "", "1", "keep", [], [1], [[1]], (), (1, 2), ((1,),), [1, 2, 3])
FULL = {
    "parts": 3, "step": 7, "grace": 2, "last": True, "misses": 1, "keep": (0, 10, 50), "fine": 5, "falls": 9,
    "back": 14,
}
# The same rule with one figure another; parts goes with keep, so it has a test of its own.
OTHERS = {
    "step": 8, "grace": 3, "last": False, "misses": 2, "keep": (0, 10, 51), "fine": 6, "falls": 10, "back": 13,
}


def refused_word(figures):
    """The word of the refusal of these figures by names, None where there's none."""
    try:
        Rule(**figures)
    except BadRule as refusal:
        return refusal.word
    return None


def with_one(name, figure):
    """The figures of a plain rule of two parts, but for one."""
    return {"parts": 2, "step": 7, name: figure}


class FiguresTest(unittest.TestCase):
    def test_all_by_places(self):
        rule = Rule(3, 7, 2, True, 1, (0, 10, 50), 5, 9, 14)
        self.assertEqual(rule.figures(), (3, 7, 2, True, 1, (0, 10, 50), 5, 9, 14))

    def test_all_by_names_in_another_order(self):
        rule = Rule(back=14, falls=9, fine=5, keep=(0, 10, 50), misses=1, last=True, grace=2, step=7, parts=3)
        self.assertEqual(rule.figures(), (3, 7, 2, True, 1, (0, 10, 50), 5, 9, 14))

    def test_defaults(self):
        self.assertEqual(Rule(2, 5).figures(), (2, 5, 0, False, 0, (0, 0), 0, 0, 0))
        self.assertIs(Rule(2, 5).figures()[3], False)

    def test_one_number_kept_stands_for_each_part(self):
        for parts in range(1, 7):
            with self.subTest(parts):
                self.assertEqual(Rule(parts, 1, keep=30).figures()[5], (30,) * parts)

    def test_kinds_of_what_is_told(self):
        figures = Rule(**FULL).figures()
        self.assertIs(type(figures), tuple)
        kinds = [type(figure) for figure in figures]
        self.assertEqual(kinds, [int, int, int, bool, int, tuple, int, int, int])

    def test_figures_may_be_handed_in_again(self):
        for figures in (FULL, {"parts": 1, "step": 1}, {"parts": 6, "step": 2, "keep": 100}):
            rule = Rule(**figures)
            self.assertEqual(Rule(*rule.figures()), rule)
            self.assertEqual(Rule(*rule.figures()).figures(), rule.figures())

    def test_a_rule_never_changes(self):
        rule = Rule(**FULL)
        before = rule.figures()
        for paid in range(3):
            rule.keeps(paid)
            rule.keeps(paid, gone=True)
        told = (str(rule), repr(rule), len(rule), rule == Rule(1, 1), rule == 5)
        self.assertEqual(rule.figures(), before)
        self.assertEqual((str(rule), repr(rule), len(rule), rule == Rule(1, 1), rule == 5), told)


class BoundsTest(unittest.TestCase):
    def test_each_figure_at_its_bounds(self):
        for name, bounds in BOUNDS.items():
            for figure in bounds:
                with self.subTest(name=name, figure=figure):
                    self.assertIsNone(refused_word(with_one(name, figure)))
                    told = Rule(**with_one(name, figure)).figures()[NAMES.index(name)]
                    self.assertEqual(told, (figure, figure) if name == "keep" else figure)

    def test_each_figure_one_beyond_its_bounds(self):
        for name, (low, high) in BOUNDS.items():
            for figure in (low - 1, high + 1, -10 ** 9, 10 ** 9):
                with self.subTest(name=name, figure=figure):
                    self.assertEqual(refused_word(with_one(name, figure)), name)

    def test_each_figure_of_another_kind(self):
        for name in BOUNDS:
            for figure in NO_NUMBERS:
                # A tuple of as many numbers as parts may be kept.
                if name == "keep" and figure == (1, 2):
                    continue
                with self.subTest(name=name, figure=repr(figure)):
                    self.assertEqual(refused_word(with_one(name, figure)), name)

    def test_last(self):
        for figure in (True, False):
            self.assertIs(Rule(2, 7, last=figure).figures()[3], figure)
        for figure in (0, 1, -1, None, "", "True", "last", [], [True], (), (True,), (False, True)):
            with self.subTest(repr(figure)):
                self.assertEqual(refused_word(with_one("last", figure)), "last")

    def test_parts_and_step_have_no_defaults(self):
        for figures in ({}, {"parts": 2}, {"step": 2}):
            with self.assertRaises(TypeError):
                Rule(**figures)

    def test_keep_as_a_tuple(self):
        for parts in range(1, 7):
            for keep in ((0,) * parts, (100,) * parts, tuple(range(parts)), (100,) + (0,) * (parts - 1)):
                with self.subTest(parts=parts, keep=keep):
                    self.assertEqual(Rule(parts, 7, keep=keep).figures()[5], keep)

    def test_keep_of_another_many(self):
        for parts in range(1, 7):
            for many in [*range(0, 9), 40]:
                if many != parts:
                    with self.subTest(parts=parts, many=many):
                        self.assertEqual(refused_word({"parts": parts, "step": 7, "keep": (10,) * many}), "keep")

    def test_keep_with_one_number_that_may_not_be(self):
        for wrong in (-1, 101, True, False, None, "", "1", [1], (1,), [], ()):
            for at in range(3):
                keep = [10, 20, 30]
                keep[at] = wrong
                with self.subTest(repr(keep)):
                    self.assertEqual(refused_word({"parts": 3, "step": 7, "keep": tuple(keep)}), "keep")

    def test_keep_as_a_list(self):
        for keep in ([10, 20, 30], [0, 0, 0], [10], []):
            with self.subTest(keep):
                before = list(keep)
                self.assertEqual(refused_word({"parts": 3, "step": 7, "keep": keep}), "keep")
                self.assertEqual(keep, before)

    def test_of_two_at_fault_the_first_one_s_word_goes(self):
        for place, first in enumerate(NAMES):
            for second in NAMES[place + 1:]:
                with self.subTest(first=first, second=second):
                    figures = {**FULL, first: "no", second: "no"}
                    self.assertEqual(refused_word(figures), first)
                    self.assertEqual(refused_word({**FULL, second: "no"}), second)

    def test_all_at_fault(self):
        self.assertEqual(refused_word({name: None for name in NAMES}), "parts")

    def test_keep_of_as_many_as_parts_that_may_not_be(self):
        self.assertEqual(refused_word({"parts": 7, "step": 7, "keep": (1,) * 7}), "parts")
        self.assertEqual(refused_word({"parts": True, "step": 7, "keep": (1,)}), "parts")
        self.assertEqual(refused_word({"parts": 0, "step": 7, "keep": ()}), "parts")


class KeepsTest(unittest.TestCase):
    def test_one_number_is_kept_by_each_part(self):
        for parts in range(1, 7):
            rule = Rule(parts, 7, keep=30, fine=25)
            for paid in range(parts):
                with self.subTest(parts=parts, paid=paid):
                    self.assertEqual(rule.keeps(paid), 30)
                    self.assertEqual(rule.keeps(paid, gone=True), 55)

    def test_a_tuple_is_kept_by_its_places(self):
        rule = Rule(4, 7, keep=(5, 0, 90, 100), fine=20)
        self.assertEqual([rule.keeps(paid) for paid in range(4)], [5, 0, 90, 100])
        self.assertEqual([rule.keeps(paid, gone=True) for paid in range(4)], [25, 20, 100, 100])

    def test_the_fine_is_taken_to_at_most_a_hundred(self):
        for keep, fine, told in ((0, 0, 0), (0, 100, 100), (100, 0, 100), (100, 100, 100), (60, 39, 99), (60, 40, 100),
                                 (60, 41, 100)):
            with self.subTest(keep=keep, fine=fine):
                self.assertEqual(Rule(1, 1, keep=keep, fine=fine).keeps(0, gone=True), told)
                self.assertEqual(Rule(1, 1, keep=keep, fine=fine).keeps(0), keep)

    def test_arguments_by_places_and_names(self):
        rule = Rule(2, 7, keep=(1, 2), fine=10)
        self.assertEqual((rule.keeps(paid=1), rule.keeps(gone=True, paid=1), rule.keeps(1, True)), (2, 12, 12))
        self.assertEqual((rule.keeps(0, False), rule.keeps(0, gone=False)), (1, 1))

    def test_somewhat_beyond_the_bounds_nothing_is_refused(self):
        rule = Rule(2, 7, keep=(1, 2), fine=10)
        for paid in (-3, -1, 2, 9):
            with self.subTest(paid):
                self.assertIn(rule.keeps(paid), (1, 2))
                self.assertIn(rule.keeps(paid, gone=True), (11, 12))


class EqualTest(unittest.TestCase):
    def test_rules_alike(self):
        self.assertIs(Rule(**FULL) == Rule(**FULL), True)
        self.assertIs(Rule(**FULL) != Rule(**FULL), False)
        self.assertIs(Rule(2, 7) == Rule(2, 7, 0, False, 0, 0, 0, 0, 0), True)

    def test_one_number_kept_is_as_many_alike(self):
        for parts in range(1, 7):
            for keep in (0, 1, 100):
                with self.subTest(parts=parts, keep=keep):
                    self.assertIs(Rule(parts, 7, keep=keep) == Rule(parts, 7, keep=(keep,) * parts), True)
                    self.assertIs(Rule(parts, 7, keep=(keep,) * parts) == Rule(parts, 7, keep=keep), True)

    def test_rules_unlike_in_one_figure(self):
        for name, figure in OTHERS.items():
            with self.subTest(name):
                one, other = Rule(**FULL), Rule(**{**FULL, name: figure})
                self.assertIs(one == other, False)
                self.assertIs(other == one, False)
                self.assertIs(one != other, True)

    def test_rules_unlike_in_parts(self):
        for keep in (0, 20):
            self.assertIs(Rule(2, 7, keep=keep) == Rule(3, 7, keep=keep), False)

    def test_keep_unlike_at_each_place(self):
        for at in range(4):
            keep = [10, 10, 10, 10]
            keep[at] = 11
            with self.subTest(at):
                self.assertIs(Rule(4, 7, keep=10) == Rule(4, 7, keep=tuple(keep)), False)

    def test_a_percent_kept_or_fined_is_not_the_same(self):
        self.assertIs(Rule(1, 7, keep=100) == Rule(1, 7, keep=100, fine=5), False)

    def test_other_things(self):
        rule = Rule(**FULL)
        for other in (str(rule), repr(rule), rule.figures(), list(rule.figures()), len(rule), None, True, 3, [], ()):
            with self.subTest(repr(other)):
                self.assertIs(rule == other, False)
                self.assertIs(other == rule, False)


class TextTest(unittest.TestCase):
    def test_len_is_parts(self):
        for parts in range(1, 7):
            self.assertEqual(len(Rule(parts, 14, keep=5)), parts)
            self.assertEqual(len(Rule(parts, 14, keep=tuple(range(parts)))), parts)

    def test_no_clause_but_the_first(self):
        self.assertEqual(str(Rule(1, 1)), "1 parts by 1 days")
        self.assertEqual(str(Rule(6, 14)), "6 parts by 14 days")

    def test_the_document_s_own(self):
        self.assertEqual(str(Rule(3, 7, grace=2, keep=(0, 10, 50))), "3 parts by 7 days, grace 2, keep 0 10 50")

    def test_each_clause_alone(self):
        told = {
            "grace": ((1, "grace 1"), (7, "grace 7")),
            "last": ((True, "from last"),),
            "misses": ((1, "misses 1"), (2, "misses 2")),
            "keep": (
                (1, "keep 1"), (10, "keep 10"), (100, "keep 100"), ((7, 7), "keep 7"), ((0, 1), "keep 0 1"),
                ((1, 0), "keep 1 0"), ((100, 0), "keep 100 0"), ((99, 100), "keep 99 100"),
            ),
            "fine": ((1, "fine 1"), (100, "fine 100")),
            "falls": ((1, "falls 1"), (30, "falls 30")),
            "back": ((1, "back 1"), (30, "back 30")),
        }
        for name, rows in told.items():
            for figure, clause in rows:
                with self.subTest(clause):
                    self.assertEqual(str(Rule(**with_one(name, figure))), "2 parts by 7 days, " + clause)

    def test_each_clause_that_is_nought_is_left_out(self):
        for name in NAMES[2:]:
            nought = False if name == "last" else 0
            with self.subTest(name):
                self.assertEqual(str(Rule(**with_one(name, nought))), "2 parts by 7 days")
        self.assertEqual(str(Rule(2, 7, keep=(0, 0))), "2 parts by 7 days")

    def test_all_clauses_in_their_order(self):
        text = "3 parts by 7 days, grace 2, from last, misses 1, keep 0 10 50, fine 5, falls 9, back 14"
        self.assertEqual(str(Rule(**FULL)), text)

    def test_all_clauses_but_one(self):
        clauses = {
            "grace": "grace 2", "last": "from last", "misses": "misses 1", "keep": "keep 0 10 50", "fine": "fine 5",
            "falls": "falls 9", "back": "back 14",
        }
        for name in clauses:
            figures = {**FULL, name: False if name == "last" else 0}
            left = [clause for other, clause in clauses.items() if other != name]
            with self.subTest(name):
                self.assertEqual(str(Rule(**figures)), ", ".join(["3 parts by 7 days"] + left))

    def test_all_clauses_at_their_upper_bounds(self):
        rule = Rule(6, 14, 7, True, 2, 100, 100, 30, 30)
        text = "6 parts by 14 days, grace 7, from last, misses 2, keep 100, fine 100, falls 30, back 30"
        self.assertEqual(str(rule), text)

    def test_repr(self):
        self.assertEqual(repr(Rule(2, 7)), "Rule(2 parts by 7 days)")
        for figures in (FULL, {"parts": 1, "step": 3, "keep": (40,)}, {"parts": 6, "step": 14, "back": 30}):
            rule = Rule(**figures)
            with self.subTest(str(rule)):
                self.assertEqual(repr(rule), "Rule(" + str(rule) + ")")
        self.assertEqual(repr(Rule(1, 3, keep=(40,))), "Rule(1 parts by 3 days, keep 40)")


class OwnMethodsTest(unittest.TestCase):
    def test_each_method_stands_in_the_class_itself(self):
        for name in ("keeps", "figures", "__eq__", "__len__", "__str__", "__repr__"):
            with self.subTest(name):
                self.assertIn(name, vars(Rule))


if __name__ == "__main__":
    unittest.main()
