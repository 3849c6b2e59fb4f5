"""[3], and [2] of its functions: names, sums of pence, parts and shares."""

import unittest

from partwares.words import is_name, is_number_in, number_in, parts_of, pence_in, pence_text, share_up

MOST = 10 ** 9
LETTERS = "abcdefghijklmnopqrstuvwxyz"
OTHER_SIGNS = [chr(code) for code in range(32, 127) if chr(code) not in LETTERS] + ["\t", "\n"]


class IsNameTest(unittest.TestCase):
    def test_texts_of_one_to_eight_letters(self):
        for text in ("a", "z", "m", "oak", "zzzzzzzz", "abcdefgh", "aaaa"):
            with self.subTest(text):
                self.assertIs(is_name(text), True)

    def test_each_letter_is_one(self):
        for letter in LETTERS:
            with self.subTest(letter):
                self.assertIs(is_name(letter), True)

    def test_texts_too_short_or_too_long(self):
        for text in ("", "abcdefghi", "a" * 200):
            with self.subTest(text):
                self.assertIs(is_name(text), False)

    def test_a_sign_that_is_no_small_letter_at_each_place(self):
        for sign in OTHER_SIGNS:
            for text in (sign, sign + "bc", "a" + sign + "c", "ab" + sign, "abcdefg" + sign, sign + "abcdefg"):
                with self.subTest(repr(text)):
                    self.assertIs(is_name(text), False)

    def test_a_line_feed_behind_eight_letters(self):
        self.assertIs(is_name("abcdefgh\n"), False)

    def test_things_that_are_no_texts(self):
        for thing in (0, 1, -1, True, False, None, [], ["a"], ["oak"], (), ("a",), ("o", "a", "k"), [["a"]]):
            with self.subTest(repr(thing)):
                self.assertIs(is_name(thing), False)

    def test_by_name_and_nothing_is_changed(self):
        thing = ["oak", ["a"]]
        self.assertIs(is_name(thing=thing), False)
        self.assertEqual(thing, ["oak", ["a"]])
        self.assertIs(is_name(thing="oak"), True)


class IsNumberInTest(unittest.TestCase):
    def test_bounds(self):
        for thing, told in ((1, False), (2, True), (5, True), (6, False)):
            with self.subTest(thing):
                self.assertIs(is_number_in(thing, 2, 5), told)

    def test_true_and_false_and_other_kinds_are_no_numbers(self):
        for thing in (True, False, None, "1", "", [1], (1,), []):
            with self.subTest(repr(thing)):
                self.assertIs(is_number_in(thing, 0, 1), False)


class NumberInTest(unittest.TestCase):
    def test_numbers_to_the_most(self):
        for most in (0, 9, 10, 100, 400, 999):
            for number in range(1100):
                with self.subTest(most=most, number=number):
                    self.assertEqual(number_in(str(number), most), number if number <= most else None)

    def test_texts_otherwise(self):
        for text in ("", " ", "00", "01", "007", "-0", "-1", "+1", " 1", "1 ", "1\n", "\n1", "\t1", "1_0", "1.", "1,0",
                     "a", "1a",
                     "0x1", "1e1", "None", "True", "9" * 5000, "0" * 5000):
            with self.subTest(repr(text)):
                self.assertIsNone(number_in(text, 999))


class PenceTextTest(unittest.TestCase):
    def test_texts(self):
        told = {
            0: "0/00", 1: "0/01", 9: "0/09", 10: "0/10", 59: "0/59", 60: "1/00", 61: "1/01", 119: "1/59",
            127: "2/07", 600: "10/00", 6000: "100/00", MOST - 1: "16666666/39", MOST: "16666666/40",
        }
        for pence, text in told.items():
            with self.subTest(pence):
                self.assertEqual(pence_text(pence), text)
                self.assertEqual(pence_text(pence=pence), text)


class PenceInTest(unittest.TestCase):
    def test_reads_what_pence_text_tells(self):
        for pence in [*range(0, 4000), 59999, 60000, 10 ** 6, MOST - 1, MOST]:
            with self.subTest(pence):
                told = pence_in(pence_text(pence))
                self.assertEqual((told, type(told)), (pence, int))

    def test_by_name(self):
        self.assertEqual(pence_in(text="2/07"), 127)

    def test_texts_otherwise(self):
        texts = (
            "", "/", "0", "7", "127", "2/", "/07", "2/7", "2/007", "2/070", "02/07", "00/07", "00/00", "2/60",
            "0/60", "2/99", "2//07", "2/07/", "/2/07", "2/07/00", "2/0/7", "+2/07", "-2/07", "2/+7", "2/-7", "-0/00",
            " 2/07", "2/07 ", "2 /07", "2/ 7", "2/7 ", "2/ 07", "\t2/07", "2/07\t", "2/07\n", "\n2/07", "2\n/07",
            "2/0\n7", "2.07", "2:07", "2/0a", "a/07", "2_0/07", "2/0_7", "1_0/07", "2\\07", "two/07", "2/07d",
            "None", "2,07", "2/0 7", "0x1/00", "1e1/00",
        )
        for text in texts:
            with self.subTest(repr(text)):
                self.assertIsNone(pence_in(text))

    def test_sums_above_the_most(self):
        for text in ("16666666/41", "16666666/59", "16666667/00", "99999999/00", "100000000/00", "9" * 57 + "/59"):
            with self.subTest(text):
                self.assertIsNone(pence_in(text))

    def test_long_texts(self):
        for text in ("0" * 57 + "/07", "2/" + "0" * 57 + "7", "9" * 60, "/" * 60, "2/07" + " " * 56, "\n" * 60,
                     "1" * 30 + "/" + "1" * 29, "9" * 5000 + "/07"):
            with self.subTest(text):
                self.assertIsNone(pence_in(text))

    def test_every_one_sign_change_of_a_text(self):
        for text in ("2/07", "0/00", "10/59"):
            for at in range(len(text)):
                for sign in OTHER_SIGNS + list(LETTERS):
                    other = text[:at] + sign + text[at + 1:]
                    told = pence_in(other)
                    with self.subTest(repr(other)):
                        self.assertTrue(told is None or pence_text(told) == other)
                        if not sign.isdigit() and other != text:
                            self.assertIsNone(told)


class PartsOfTest(unittest.TestCase):
    def test_lists(self):
        told = (
            (0, 1, [0]), (7, 1, [7]), (MOST, 1, [MOST]), (0, 3, [0, 0, 0]), (1, 3, [1, 0, 0]), (2, 3, [1, 1, 0]),
            (3, 3, [1, 1, 1]), (4, 3, [2, 1, 1]), (5, 3, [2, 2, 1]), (100, 3, [34, 33, 33]),
            (11, 12, [1] * 11 + [0]), (12, 12, [1] * 12), (13, 12, [2] + [1] * 11),
            (MOST, 12, [83333334] * 4 + [83333333] * 8), (MOST, 7, [142857143] * 6 + [142857142]),
        )
        for pence, many, parts in told:
            with self.subTest(pence=pence, many=many):
                self.assertEqual(parts_of(pence, many), parts)
                self.assertEqual(parts_of(many=many, pence=pence), parts)

    def test_what_is_promised_of_all_of_them(self):
        for many in range(1, 13):
            for pence in [*range(0, 40), 999, MOST - 1, MOST]:
                parts = parts_of(pence, many)
                with self.subTest(pence=pence, many=many):
                    self.assertIs(type(parts), list)
                    self.assertEqual((len(parts), sum(parts)), (many, pence))
                    self.assertLessEqual(max(parts) - min(parts), 1)
                    self.assertEqual(parts, sorted(parts, reverse=True))

    def test_a_told_list_is_the_asker_s_own(self):
        one = parts_of(5, 3)
        other = parts_of(5, 3)
        self.assertIsNot(one, other)
        one[0] = 99
        one.append(4)
        self.assertEqual(other, [2, 2, 1])
        self.assertEqual(parts_of(5, 3), [2, 2, 1])

    def test_somewhat_beyond_the_bounds_nothing_is_refused(self):
        self.assertEqual(parts_of(5, 0), [])
        self.assertEqual(sum(parts_of(MOST + 5, 13)), MOST + 5)


class ShareUpTest(unittest.TestCase):
    def test_shares(self):
        told = (
            (0, 0, 0), (0, 1, 0), (0, 50, 0), (0, 99, 0), (0, 100, 0), (1, 0, 0), (1, 1, 1), (1, 50, 1), (1, 99, 1),
            (1, 100, 1), (99, 1, 1), (100, 1, 1), (101, 1, 2), (200, 1, 2), (201, 1, 3), (10, 50, 5), (11, 50, 6),
            (100, 99, 99), (101, 99, 100), (199, 99, 198), (127, 100, 127), (127, 0, 0), (127, 33, 42), (300, 33, 99),
            (MOST, 0, 0), (MOST, 1, 10 ** 7), (MOST - 1, 1, 10 ** 7), (MOST - 99, 1, 10 ** 7), (MOST - 100, 1, 9999999),
            (MOST, 50, 5 * 10 ** 8), (MOST, 99, 990000000), (MOST - 1, 99, 990000000), (MOST, 100, MOST),
            (MOST - 1, 100, MOST - 1),
        )
        for pence, percent, share in told:
            with self.subTest(pence=pence, percent=percent):
                self.assertEqual(share_up(pence, percent), share)
                self.assertEqual(share_up(percent=percent, pence=pence), share)

    def test_it_is_the_least_number_not_below_the_hundredths(self):
        for percent in (0, 1, 2, 33, 50, 99, 100):
            for pence in range(0, 260):
                share = share_up(pence, percent)
                with self.subTest(pence=pence, percent=percent):
                    self.assertTrue(100 * (share - 1) < pence * percent <= 100 * share)
                    self.assertIs(type(share), int)


if __name__ == "__main__":
    unittest.main()
