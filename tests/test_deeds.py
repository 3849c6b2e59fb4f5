"""[11] of deeds.py, and [2] of its functions: what a deed is, and the names in it."""

import unittest

from partwares.deeds import is_deed, names_in

TEXT = "3 parts by 7 days, grace 2, keep 0 10 50"
DEEDS = [
    ("house", "inn", TEXT),
    ("price", "inn", "cup", 500),
    ("ware", "one", "cup", "inn"),
    ("put", "inn", "cup", "ann"),
    ("pay", "one", "ann"),
    ("up", "one"),
    ("leave", "inn", "cup", "ann"),
    ("bring", "one"),
    ("hand", "inn", "mill"),
    ("settle", "inn", "mill", 700),
]
NAMES = [
    [("house", "inn")],
    [("house", "inn"), ("kind", "cup")],
    [("ware", "one"), ("kind", "cup"), ("house", "inn")],
    [("house", "inn"), ("kind", "cup"), ("who", "ann")],
    [("ware", "one"), ("who", "ann")],
    [("ware", "one")],
    [("house", "inn"), ("kind", "cup"), ("who", "ann")],
    [("ware", "one")],
    [("house", "inn"), ("house", "mill")],
    [("house", "inn"), ("house", "mill")],
]
NO_NAMES = ("", "A", "Ann", "abcdefghi", "an n", " ann", "ann ", "ann\n", "\t", "a1", "1", "a-b", "a" * 200, TEXT)
OTHER_KINDS = (None, True, False, 0, 1, -1, 10 ** 12, [], (), ["ann"], ("ann",), [[[[[[[]]]]]]], ((((((()))))),))
NO_RULES = (
    "", "3 parts by 7 days, grace 0", "3 parts by 7 days,", "3 parts by 7 days ", " 3 parts by 7 days", "0 parts by 7 days",
    "3 parts by 15 days", "3 parts", "3 parts by 7 days, keep 1 2", "3 parts by 7 days\n", "grace 2", "inn", "x" * 200,
    "03 parts by 7 days", "3 parts by 7 days, fine 3, grace 2", "3 parts by 7 days, keep 5 5 5", ", " * 100,
)


def with_place(deed, place, thing):
    """The deed with another thing at that place."""
    return deed[:place] + (thing,) + deed[place + 1:]


class IsDeedTest(unittest.TestCase):
    def told(self, thing, right):
        with self.subTest(repr(thing)):
            self.assertIs(is_deed(thing), right)
            self.assertIs(is_deed(thing=thing), right)

    def test_each_form(self):
        for deed in DEEDS:
            self.told(deed, True)

    def test_names_of_all_lengths_and_names_that_are_words(self):
        for name in ("a", "z", "abcdefgh", "zzzzzzzz", "house", "up", "none"):
            for deed in DEEDS:
                for place in range(1, len(deed)):
                    if isinstance(deed[place], str) and deed[place] != TEXT:
                        self.told(with_place(deed, place, name), True)

    def test_names_that_are_none(self):
        for deed in DEEDS:
            for place in range(1, len(deed)):
                if isinstance(deed[place], str) and deed[place] != TEXT:
                    for name in NO_NAMES:
                        self.told(with_place(deed, place, name), False)

    def test_another_kind_at_each_place(self):
        for deed in DEEDS:
            for place in range(len(deed)):
                for thing in OTHER_KINDS:
                    if not (thing == 1 and thing is not True and isinstance(deed[place], int)):
                        self.told(with_place(deed, place, thing), False)

    def test_other_words(self):
        for word in ("", "House", "houses", "pay ", "strike", "undo", "state", "ann", "\n"):
            for deed in DEEDS:
                self.told(with_place(deed, 0, word), False)
        for word in [deed[0] for deed in DEEDS]:
            self.told((word,), False)
            self.told(word, False)

    def test_pence_at_their_bounds_and_a_penny_beyond(self):
        for pence, right in ((1, True), (2, True), (10 ** 6, True), (0, False), (-1, False), (10 ** 6 + 1, False),
                             (10 ** 8, False), (10 ** 30, False), ("500", False), ("8/20", False), (True, False)):
            self.told(("price", "inn", "cup", pence), right)
        for pence, right in ((1, True), (10 ** 6 + 1, True), (10 ** 8, True), (0, False), (-1, False),
                             (10 ** 8 + 1, False), (10 ** 30, False), ("700", False), (True, False)):
            self.told(("settle", "inn", "mill", pence), right)

    def test_texts_of_rules(self):
        for text in (TEXT, "1 parts by 1 days", "6 parts by 14 days, grace 7, from last, misses 2, keep 1 2 3 4 5 6, "
                     "fine 100, falls 30, back 30"):
            self.told(("house", "inn", text), True)
        for text in NO_RULES:
            self.told(("house", "inn", text), False)

    def test_houses_alike_where_they_must_be_unlike(self):
        self.told(("hand", "inn", "inn"), False)
        self.told(("settle", "inn", "inn", 5), False)
        self.told(("hand", "inn", "inns"), True)

    def test_names_alike_where_they_may_be(self):
        self.told(("ware", "cup", "cup", "cup"), True)
        self.told(("put", "cup", "cup", "cup"), True)
        self.told(("leave", "cup", "cup", "cup"), True)
        self.told(("price", "cup", "cup", 1), True)
        self.told(("pay", "cup", "cup"), True)

    def test_lists_in_the_place_of_tuples(self):
        for deed in DEEDS:
            self.told(list(deed), False)
            self.told([deed], False)
            self.told((deed,), False)
            self.told((list(deed),), False)

    def test_one_thing_more_or_fewer(self):
        for deed in DEEDS:
            self.told(deed[:-1], False)
            self.told(deed[1:], False)
            for thing in ("ann", 5, None, TEXT, ()):
                self.told(deed + (thing,), False)
        self.told((), False)

    def test_other_things(self):
        for thing in OTHER_KINDS + NO_NAMES + NO_RULES:
            self.told(thing, False)
            self.told([thing], False)
            self.told((thing,), False)
            self.told((thing, thing), False)

    def test_nothing_handed_in_is_changed(self):
        thing = [["house", ["inn"]], ("up", ["one"])]
        self.assertFalse(is_deed(thing))
        self.assertFalse(is_deed(thing[1]))
        self.assertEqual(thing, [["house", ["inn"]], ("up", ["one"])])


class NamesInTest(unittest.TestCase):
    def test_each_form(self):
        for deed, names in zip(DEEDS, NAMES):
            with self.subTest(deed[0]):
                self.assertEqual(names_in(deed), names)
                self.assertEqual(names_in(deed=deed), names)
                self.assertIs(type(names_in(deed)), list)
                self.assertEqual({type(pair) for pair in names_in(deed)}, {tuple})

    def test_names_alike_are_told_each(self):
        self.assertEqual(names_in(("put", "cup", "cup", "cup")), [("house", "cup"), ("kind", "cup"), ("who", "cup")])

    def test_a_told_list_is_the_asker_s_own(self):
        for deed, names in zip(DEEDS, NAMES):
            one, other = names_in(deed), names_in(deed)
            self.assertIsNot(one, other)
            one.clear()
            self.assertEqual(other, names)
            self.assertEqual(names_in(deed), names)


if __name__ == "__main__":
    unittest.main()
