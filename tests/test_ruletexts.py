"""[5], and [2] of its functions: the texts of rules, told and read."""

import itertools
import re
import unittest

from partwares.errors import BadClause, WareError
from partwares.rules import Rule
from partwares.ruletexts import read_rule, rule_text

FIRST = "3 parts by 7 days"
CLAUSES = [FIRST, "grace 2", "from last", "misses 1", "keep 0 10 50", "fine 5", "falls 9", "back 14"]
FULL = ", ".join(CLAUSES)
FULL_RULE = Rule(3, 7, 2, True, 1, (0, 10, 50), 5, 9, 14)
MOST = {"grace": 7, "misses": 2, "keep": 100, "fine": 100, "falls": 30, "back": 30}
NO_NUMBERS = ("", "0", "00", "01", "007", "-1", "+1", "1.", "1_0", "a", "one", "1\n", "\n1", "\t1", "0x1", "1e1",
              "None")


def place_of(text):
    """The place of the refusal of a text, None where it is read."""
    try:
        read_rule(text)
    except BadClause as refusal:
        return refusal.place
    return None


def with_clause(at, clause):
    """The full text, with another clause at that place."""
    return ", ".join(CLAUSES[:at] + [clause] + CLAUSES[at + 1:])


def wrong_forms(clause):
    """The clause written otherwise: words left out, told twice, blanks more or less, signs at its ends."""
    words = clause.split(" ")
    forms = ["", " ", clause + clause, clause + " " + clause, clause.upper(), clause.capitalize(), "".join(words)]
    for at, word in enumerate(words):
        forms.append(" ".join(words[:at] + words[at + 1:]))
        forms.append(" ".join(words[:at] + [word, word] + words[at + 1:]))
        forms.append(" ".join(words[:at] + [word + word] + words[at + 1:]))
        forms.append(" ".join(words[:at] + [""] + words[at:]))
        forms.append(" ".join(words[:at] + ["and"] + words[at:]))
    forms.append(" ".join(words[::-1]))
    for blank in ("\t", "\n", "_", ",", "-", "  "):
        forms.append(clause.replace(" ", blank, 1))
    for sign in (" ", ",", ".", ";", "\n", "\t", "-", "+", "x", "~", "0"):
        forms += [sign + clause, clause + sign]
    return [form for form in forms if form != clause]


def place_by_words(clauses):
    """The place of the first clause at fault, by the words of the document; None where none is."""
    sorts = ("parts", "grace", "from", "misses", "keep", "fine", "falls", "back")
    first = re.fullmatch(r"([1-6]) parts by ([1-9]|1[0-4]) days", clauses[0])
    if first is None or "\n" in clauses[0]:
        return 0
    parts, ahead = int(first[1]), 0
    for place, clause in enumerate(clauses[1:], 1):
        word, _, rest = clause.partition(" ")
        if word not in sorts[1:] or sorts.index(word) <= ahead:
            return place
        ahead = sorts.index(word)
        if word == "from":
            if rest != "last":
                return place
            continue
        if re.fullmatch(r"(0|[1-9][0-9]*)( (0|[1-9][0-9]*))*", rest) is None or "\n" in rest:
            return place
        numbers = [int(number) for number in rest.split(" ")]
        if max(numbers) > MOST[word]:
            return place
        if len(numbers) == 1:
            if numbers == [0]:
                return place
        elif word != "keep" or len(numbers) != parts or len(set(numbers)) == 1:
            return place
    return None


class RuleTextTest(unittest.TestCase):
    def test_the_document_s_own(self):
        self.assertEqual(rule_text(Rule(3, 7, grace=2, keep=(0, 10, 50))), "3 parts by 7 days, grace 2, keep 0 10 50")

    def test_all_clauses_and_none(self):
        self.assertEqual(rule_text(FULL_RULE), FULL)
        self.assertEqual(rule_text(rule=FULL_RULE), FULL)
        self.assertEqual(rule_text(Rule(1, 1)), "1 parts by 1 days")
        self.assertEqual(rule_text(Rule(6, 14)), "6 parts by 14 days")

    def test_each_clause_at_its_bounds(self):
        for word, most in MOST.items():
            for number in (1, most):
                with self.subTest(word=word, number=number):
                    self.assertEqual(rule_text(Rule(2, 7, **{word: number})), f"2 parts by 7 days, {word} {number}")
            with self.subTest(word=word, number=0):
                self.assertEqual(rule_text(Rule(2, 7, **{word: 0})), "2 parts by 7 days")
        self.assertEqual(rule_text(Rule(2, 7, last=True)), "2 parts by 7 days, from last")
        self.assertEqual(rule_text(Rule(2, 7, last=False)), "2 parts by 7 days")

    def test_each_clause_left_out_of_all(self):
        figures = {"grace": 2, "last": True, "misses": 1, "keep": (0, 10, 50), "fine": 5, "falls": 9, "back": 14}
        for at, word in enumerate(figures, 1):
            left = {**figures, word: False if word == "last" else 0}
            with self.subTest(word):
                self.assertEqual(rule_text(Rule(3, 7, **left)), ", ".join(CLAUSES[:at] + CLAUSES[at + 1:]))

    def test_one_number_kept_where_all_are_the_same_else_all_of_them(self):
        told = (
            (1, (40,), ", keep 40"), (1, (0,), ""), (2, (40, 40), ", keep 40"), (2, (0, 0), ""),
            (2, (0, 40), ", keep 0 40"), (2, (40, 0), ", keep 40 0"), (3, (100, 100, 100), ", keep 100"),
            (3, (0, 0, 1), ", keep 0 0 1"), (3, (7, 7, 8), ", keep 7 7 8"), (6, (5,) * 6, ", keep 5"),
            (6, (0, 1, 2, 3, 4, 100), ", keep 0 1 2 3 4 100"), (6, (5, 5, 5, 5, 5, 0), ", keep 5 5 5 5 5 0"),
        )
        for parts, keep, clause in told:
            with self.subTest(keep):
                self.assertEqual(rule_text(Rule(parts, 3, keep=keep)), f"{parts} parts by 3 days{clause}")

    def test_it_is_the_text_of_str(self):
        for rule in (FULL_RULE, Rule(1, 1), Rule(6, 14, 7, True, 2, 100, 100, 30, 30), Rule(2, 3, keep=(0, 4))):
            self.assertEqual(rule_text(rule), str(rule))


class ReadRuleTest(unittest.TestCase):
    def test_texts(self):
        told = {
            "3 parts by 7 days, grace 2, keep 0 10 50": Rule(3, 7, grace=2, keep=(0, 10, 50)),
            "1 parts by 1 days": Rule(1, 1),
            "6 parts by 14 days": Rule(6, 14),
            FULL: FULL_RULE,
            "1 parts by 5 days, keep 40": Rule(1, 5, keep=40),
            "2 parts by 5 days, keep 100": Rule(2, 5, keep=100),
            "2 parts by 5 days, keep 0 1": Rule(2, 5, keep=(0, 1)),
            "6 parts by 14 days, grace 7, from last, misses 2, keep 100 0 100 0 100 0, fine 100, falls 30, back 30":
                Rule(6, 14, 7, True, 2, (100, 0, 100, 0, 100, 0), 100, 30, 30),
        }
        for text, rule in told.items():
            with self.subTest(text):
                self.assertIsInstance(read_rule(text), Rule)
                self.assertEqual(read_rule(text).figures(), rule.figures())
                self.assertIs(read_rule(text).figures()[3], rule.figures()[3])
                self.assertEqual(read_rule(text=text), rule)

    def test_each_text_told_is_read_as_a_rule_alike(self):
        many = 0
        for parts, step, grace, last, misses in itertools.product((1, 2, 6), (1, 10, 14), (0, 7), (False, True),
                                                                  (0, 2)):
            keeps = (0, 1, 100, tuple(range(parts)), (100,) + (0,) * (parts - 1), (50,) * parts)
            for keep, fine, falls, back in itertools.product(keeps, (0, 100), (0, 30), (0, 30)):
                rule = Rule(parts, step, grace, last, misses, keep, fine, falls, back)
                read = read_rule(rule_text(rule))
                self.assertEqual((read.figures(), rule_text(read)), (rule.figures(), rule_text(rule)))
                many += 1
        self.assertEqual(many, 72 * 6 * 8)

    def test_every_choice_of_clauses_in_their_order(self):
        for many in range(8):
            for chosen in itertools.combinations(CLAUSES[1:], many):
                text = ", ".join((FIRST,) + chosen)
                self.assertEqual(rule_text(read_rule(text)), text)

    def test_every_number_of_each_clause(self):
        for word, most in MOST.items():
            for number in range(most + 20):
                text = f"3 parts by 7 days, {word} {number}"
                with self.subTest(text):
                    if 1 <= number <= most:
                        self.assertEqual(read_rule(text), Rule(3, 7, **{word: number}))
                    else:
                        self.assertEqual(place_of(text), 1)
        for parts in range(20):
            for step in range(20):
                text = f"{parts} parts by {step} days"
                with self.subTest(text):
                    if 1 <= parts <= 6 and 1 <= step <= 14:
                        self.assertEqual(read_rule(text), Rule(parts, step))
                    else:
                        self.assertEqual(place_of(text), 0)

    def test_rules_told_are_each_their_own_and_the_same(self):
        self.assertEqual(read_rule(FULL), read_rule(FULL))
        self.assertIsNot(read_rule(FULL), read_rule(FULL))


class BadClauseTest(unittest.TestCase):
    def test_it_is_refused_as_a_ware_error(self):
        with self.assertRaises(WareError) as caught:
            read_rule("3 parts by 7 days, grace 8")
        self.assertIs(type(caught.exception), BadClause)
        self.assertEqual(caught.exception.place, 1)
        self.assertIs(type(caught.exception.place), int)

    def test_a_number_beyond_its_bounds_at_each_clause(self):
        wrong = (
            (0, "0 parts by 7 days"), (0, "7 parts by 7 days"), (0, "3 parts by 0 days"), (0, "3 parts by 15 days"),
            (1, "grace 0"), (1, "grace 8"), (3, "misses 0"), (3, "misses 3"), (4, "keep 0"), (4, "keep 101"),
            (4, "keep 101 0 0"), (4, "keep 0 101 0"), (4, "keep 0 0 101"), (5, "fine 0"), (5, "fine 101"),
            (6, "falls 0"), (6, "falls 31"), (7, "back 0"), (7, "back 31"),
        )
        for at, clause in wrong:
            with self.subTest(clause):
                self.assertEqual(place_of(with_clause(at, clause)), at)

    def test_what_is_no_number_at_each_clause(self):
        for number in NO_NUMBERS + ("9" * 90, "0" * 90, "9" * 5000):
            wrong = [(0, f"{number} parts by 7 days"), (0, f"3 parts by {number} days"), (4, f"keep 0 {number} 01")]
            wrong += [(at, CLAUSES[at].split(" ")[0] + " " + number) for at in (1, 3, 4, 5, 6, 7)]
            # Among numbers that aren't all the same 0 is right.
            wrong += [(4, f"keep 5 {number} 50"), (4, f"keep {number} 5 50"),
                      (4, f"keep 5 50 {number}")] * (number != "0")
            for at, clause in wrong:
                with self.subTest(clause):
                    self.assertEqual(place_of(with_clause(at, clause)), at)

    def test_each_clause_written_otherwise(self):
        for at, clause in enumerate(CLAUSES):
            for form in wrong_forms(clause):
                text = with_clause(at, form)
                expected = place_by_words(text.split(", "))
                with self.subTest(repr(text)):
                    self.assertEqual(place_of(text), expected)
                    # None where another number came of it, within its bounds: fine 55 of fine 5.
                    self.assertIn(expected, (at, None))
                    self.assertIs(expected is None, re.search(r"fine 5[05],", text) is not None)

    def test_keep_written_otherwise(self):
        wrong = (
            "", "keep", "keep ", "keep  0 10 50", "keep 0  10 50", "keep 0 10 50 ", " keep 0 10 50",
            "keep keep 0 10 50",
            "keep 0, 10 50", "keep 0,10,50", "keep0 10 50", "keep 0\n10 50", "keep 0 10 50\n", "keep 00 10 50",
            "keep 0 010 50", "keep -0 10 50", "kept 0 10 50", "0 10 50", "keep (0, 10, 50)", "keep 0 10",
            "keep 0 10 50 60",
            "keep 7 7 7", "keep 0 0 0", "keep 100 100 100", "keep 0",
        )
        for clause in wrong:
            with self.subTest(repr(clause)):
                self.assertEqual(place_of(with_clause(4, clause)), 4)

    def test_keep_of_each_many(self):
        for parts in range(1, 7):
            for many in range(0, 10):
                for numbers in (["5"] * many, [str(at) for at in range(many)], ["0"] * many):
                    text = f"{parts} parts by 7 days, " + " ".join(["keep"] + numbers)
                    right = numbers == ["5"] or (many == parts > 1 and len(set(numbers)) > 1)
                    with self.subTest(text):
                        self.assertEqual(place_of(text), None if right else 1)

    def test_keep_of_a_rule_of_one_part(self):
        self.assertEqual(read_rule("1 parts by 7 days, keep 9").figures()[5], (9,))
        for clause in ("keep 9 9", "keep 9 8", "keep 0", "keep 0 9", "keep"):
            with self.subTest(clause):
                self.assertEqual(place_of("1 parts by 7 days, grace 1, " + clause), 2)

    def test_a_clause_twice(self):
        for at, clause in enumerate(CLAUSES):
            with self.subTest(clause):
                self.assertEqual(place_of(", ".join(CLAUSES[:at + 1] + [clause] + CLAUSES[at + 1:])), at + 1)
                self.assertEqual(place_of(FULL + ", " + clause), 8)
                self.assertEqual(place_of(FIRST + ", " + clause + ", " + clause), 2 if at else 1)

    def test_a_clause_twice_with_another_number(self):
        for word in MOST:
            with self.subTest(word):
                self.assertEqual(place_of(f"{FIRST}, {word} 1, {word} 2"), 2)
        self.assertEqual(place_of(f"{FIRST}, keep 5, keep 0 10 50"), 2)
        self.assertEqual(place_of(f"{FIRST}, keep 0 10 50, keep 5"), 2)
        self.assertEqual(place_of(f"{FIRST}, 2 parts by 7 days"), 1)

    def test_two_clauses_exchanged(self):
        for one, other in itertools.combinations(range(1, 8), 2):
            clauses = list(CLAUSES)
            clauses[one], clauses[other] = clauses[other], clauses[one]
            with self.subTest(clauses):
                self.assertEqual(place_of(", ".join(clauses)), one + 1)
                self.assertEqual(place_of(f"{FIRST}, {CLAUSES[other]}, {CLAUSES[one]}"), 2)

    def test_the_first_clause_must_be_the_first(self):
        for other in range(1, 8):
            clauses = list(CLAUSES)
            clauses[0], clauses[other] = clauses[other], clauses[0]
            with self.subTest(clauses):
                self.assertEqual(place_of(", ".join(clauses)), 0)
                self.assertEqual(place_of(CLAUSES[other]), 0)
                self.assertEqual(place_of(", ".join(CLAUSES[1:])), 0)

    def test_a_clause_of_another_sort(self):
        for clause in ("price 5", "parts 3", "step 7", "last", "from", "from first", "last from", "from last 1",
                       "keeps 5",
                       "miss 1", "fall 9", "true", "and back 14", "5"):
            for at in range(1, 9):
                text = ", ".join(CLAUSES[:at] + [clause] + CLAUSES[at:])
                with self.subTest(text):
                    self.assertEqual(place_of(text), at)

    def test_signs_between_clauses(self):
        told = (
            ("3 parts by 7 days,grace 2", 0), ("3 parts by 7 days ,grace 2", 0), ("3 parts by 7 days grace 2", 0),
            ("3 parts by 7 days , grace 2", 0), ("3 parts by 7 days;grace 2", 0), ("3 parts by 7 days,\ngrace 2", 0),
            ("3 parts by 7 days,  grace 2", 1), ("3 parts by 7 days, , grace 2", 1),
            ("3 parts by 7 days, \ngrace 2", 1),
            ("3 parts by 7 days, grace 2,back 3", 1), ("3 parts by 7 days, grace 2 , back 3", 1),
            ("3 parts by 7 days, grace 2,, back 3", 1), ("3 parts by 7 days, grace 2, , back 3", 2),
            ("3 parts by 7 days,", 0), ("3 parts by 7 days, ", 1), (", 3 parts by 7 days", 0), (",", 0), (", ", 0),
            ("3 parts by 7 days, grace 2,", 1), ("3 parts by 7 days, grace 2, ", 2), ("3 parts by 7 days\n", 0),
            ("\n3 parts by 7 days", 0), ("3 parts by 7 days, grace 2\n", 1), ("3 parts by 7 days\n, grace 2", 0),
            ("", 0), (" ", 0), ("\n", 0), ("Rule(3 parts by 7 days)", 0), ("3 parts by 7 days, grace 2)", 1),
        )
        for text, place in told:
            with self.subTest(repr(text)):
                self.assertEqual(place_of(text), place)

    def test_long_texts(self):
        self.assertEqual(place_of("9" * 200), 0)
        self.assertEqual(place_of(", " * 100), 0)
        self.assertEqual(place_of(FIRST + ", " * 90), 1)
        self.assertEqual(place_of(FIRST + ", grace " + "0" * 160 + "2"), 1)
        self.assertEqual(place_of(FIRST + ", keep" + " 1" * 90), 1)
        self.assertEqual(place_of(FULL + ", " + "~" * 100), 8)

    def test_of_two_clauses_at_fault_the_lesser_number_goes(self):
        wrong = ["3 parts by 15 days", "grace 0", "from  last", "misses 3", "keep 1 2", "fine 101", "falls x", "back"]
        for one, other in itertools.combinations(range(8), 2):
            clauses = list(CLAUSES)
            clauses[one], clauses[other] = wrong[one], wrong[other]
            with self.subTest(clauses):
                self.assertEqual(place_of(", ".join(clauses)), one)

    def test_every_one_sign_change(self):
        signs = [chr(code) for code in range(32, 127)] + ["\t", "\n"]
        text = "2 parts by 10 days, from last, keep 0 10, back 3"
        for at in range(len(text) + 1):
            for sign in signs + [""]:
                for changed in (text[:at] + sign + text[at + 1:], text[:at] + sign + text[at:]):
                    self.assertEqual(place_of(changed), place_by_words(changed.split(", ")), repr(changed))
                    if place_of(changed) is None:
                        self.assertEqual(rule_text(read_rule(changed)), changed)

    def test_all_short_rows_of_clauses(self):
        pool = [
            "2 parts by 7 days", "grace 1", "grace 8", "from last", "misses 2", "misses 3", "keep 5", "keep 5 5",
            "keep 0 5",
            "keep 1 2 3", "fine 100", "falls 30", "falls 0", "back 1", "back 31", "", "fine", "last",
        ]
        for first in ("2 parts by 7 days", "3 parts by 14 days", "1 parts by 1 days", "2 parts by 15 days", "grace 1"):
            for many in range(4):
                for rest in itertools.product(pool, repeat=many):
                    clauses = [first, *rest]
                    self.assertEqual(place_of(", ".join(clauses)), place_by_words(clauses), clauses)


if __name__ == "__main__":
    unittest.main()
