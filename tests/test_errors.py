"""[2] and the interface: the classes of the refusals."""

import unittest

from partwares import errors
from partwares.errors import BadClause, BadRow, BadRule, Idle, NoDay, NoEntry, NoHouse, NoWare, WareError

WITH_FIELDS = ((BadRule, "word", "keep"), (BadClause, "place", 3), (BadRow, "row", 0))
WITH_WORDS = (NoDay, Idle, NoEntry, NoWare, NoHouse)
REFUSALS = (BadRule, BadClause, BadRow) + WITH_WORDS


def made(refusal):
    """An error of this class, as it is made by place."""
    for kind, field, value in WITH_FIELDS:
        if refusal is kind:
            return kind(value)
    return refusal("some words")


class ClassesTest(unittest.TestCase):
    def test_ware_error_stands_straight_under_value_error(self):
        self.assertEqual(WareError.__bases__, (ValueError,))

    def test_each_refusal_stands_straight_under_ware_error(self):
        for refusal in REFUSALS:
            with self.subTest(refusal.__name__):
                self.assertEqual(refusal.__bases__, (WareError,))

    def test_there_are_no_other_refusals(self):
        told = {name for name, thing in vars(errors).items() if isinstance(thing, type)}
        self.assertEqual(told, {refusal.__name__ for refusal in REFUSALS} | {"WareError"})

    def test_each_is_caught_by_its_own_class_and_those_above(self):
        for refusal in REFUSALS:
            for caught in (refusal, WareError, ValueError):
                with self.subTest(refusal=refusal.__name__, caught=caught.__name__):
                    with self.assertRaises(caught):
                        raise made(refusal)

    def test_none_is_caught_by_another_one(self):
        for refusal in REFUSALS:
            for other in REFUSALS:
                if other is not refusal:
                    with self.subTest(refusal=refusal.__name__, other=other.__name__):
                        self.assertNotIsInstance(made(refusal), other)


class FieldsTest(unittest.TestCase):
    def test_fields_by_place(self):
        for refusal, field, value in WITH_FIELDS:
            with self.subTest(refusal.__name__):
                self.assertEqual(getattr(refusal(value), field), value)

    def test_fields_by_name(self):
        for refusal, field, value in WITH_FIELDS:
            with self.subTest(refusal.__name__):
                self.assertEqual(getattr(refusal(**{field: value}), field), value)

    def test_a_field_is_each_object_s_own(self):
        for refusal, field, value in WITH_FIELDS:
            with self.subTest(refusal.__name__):
                one, other = refusal(value), refusal(7)
                self.assertEqual((getattr(one, field), getattr(other, field)), (value, 7))

    def test_fields_are_there_when_caught(self):
        with self.assertRaises(WareError) as caught:
            raise BadRow(12)
        self.assertEqual(caught.exception.row, 12)

    def test_a_field_must_be_told(self):
        for refusal, field, value in WITH_FIELDS:
            with self.subTest(refusal.__name__), self.assertRaises(TypeError):
                refusal()

    def test_the_others_are_made_with_words(self):
        for refusal in WITH_WORDS:
            with self.subTest(refusal.__name__):
                self.assertEqual(str(refusal("there is none")), "there is none")


if __name__ == "__main__":
    unittest.main()
