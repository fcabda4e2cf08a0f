"""The errors of the interface."""

import unittest

from whoholds.errors import HoldError, NoRow, Round, TooMany


class Errors(unittest.TestCase):
    def test_what_stands_under_what(self):
        self.assertEqual(HoldError.__bases__, (ValueError,))
        for kind in (NoRow, Round, TooMany):
            self.assertEqual(kind.__bases__, (HoldError,))

    def test_those_made_of_a_text(self):
        for kind in (HoldError, NoRow, Round):
            with self.assertRaises(HoldError) as caught:
                raise kind("why it is refused")
            self.assertIs(type(caught.exception), kind)
            self.assertEqual(str(caught.exception), "why it is refused")

    def test_too_many_has_its_field(self):
        for most in (0, 1, 200, 10 ** 59):
            with self.assertRaises(HoldError) as caught:
                raise TooMany(most)
            self.assertIs(type(caught.exception), TooMany)
            self.assertEqual(caught.exception.most, most)
            self.assertIs(type(caught.exception.most), int)

    def test_too_many_keeps_each_its_own_field(self):
        few, many = TooMany(2), TooMany(200)
        self.assertEqual((few.most, many.most), (2, 200))

    def test_too_many_is_made_of_one_number(self):
        with self.assertRaises(TypeError):
            TooMany()

    def test_all_are_caught_as_value_errors(self):
        for error in (HoldError("a"), NoRow("a"), Round("a"), TooMany(1)):
            self.assertIsInstance(error, ValueError)
        self.assertNotIsInstance(NoRow("a"), (Round, TooMany))
        self.assertNotIsInstance(Round("a"), (NoRow, TooMany))
        self.assertNotIsInstance(TooMany(1), (NoRow, Round))
