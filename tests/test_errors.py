"""The refusals: their classes and fields."""

import unittest

from lotledger import errors
from lotledger.errors import LotError

PLAIN = ("NoWeights", "NoEntry", "NoWay", "NoPieces")
WITH_NUMBER = ("NotHeld", "Twice", "NoLot", "Late", "NoNumber")
WITH_ROW = ("NoText",)
ALL = PLAIN + WITH_NUMBER + WITH_ROW


class ErrorClasses(unittest.TestCase):
    def test_lot_error_stands_under_value_error(self):
        self.assertTrue(issubclass(LotError, ValueError))

    def test_each_stands_under_lot_error(self):
        for name in ALL:
            with self.subTest(name):
                self.assertTrue(issubclass(getattr(errors, name), LotError))

    def test_none_stands_under_another_one(self):
        for name in ALL:
            for other in ALL:
                if name != other:
                    with self.subTest(name, other=other):
                        self.assertFalse(issubclass(getattr(errors, name), getattr(errors, other)))

    def test_there_are_ten_unlike_classes(self):
        self.assertEqual(len({getattr(errors, name) for name in ALL}), 10)

    def test_the_plain_ones_are_raised_and_taken(self):
        for name in PLAIN:
            with self.subTest(name), self.assertRaises(LotError):
                raise getattr(errors, name)("words")


class ErrorFields(unittest.TestCase):
    def test_number(self):
        for name in WITH_NUMBER:
            for number in (0, 7, 10 ** 6):
                with self.subTest(name, number=number):
                    self.assertEqual(getattr(errors, name)(number).number, number)

    def test_row(self):
        for row in (1, 60):
            self.assertEqual(errors.NoText(row).row, row)

    def test_a_field_is_there_when_it_is_taken(self):
        for name in WITH_NUMBER:
            with self.subTest(name):
                with self.assertRaises(LotError) as taken:
                    raise getattr(errors, name)(12)
                self.assertEqual(taken.exception.number, 12)


if __name__ == "__main__":
    unittest.main()
