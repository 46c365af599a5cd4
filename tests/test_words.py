"""[3]: is_integer, check_number and read_number."""

import unittest

from helper import ParcelCase
from widestparcels.errors import BadNumber
from widestparcels.words import check_number, is_integer, read_number

NO_INTEGERS = (True, False, None, "", "1", "one", b"1", 1.0, (1,), [1], {1: 1})


class IsInteger(ParcelCase):
    def test_integers(self):
        for value in (-(10 ** 30), -1, 0, 1, 24, 10 ** 30):
            self.assertIs(is_integer(value), True, value)

    def test_other_values(self):
        for value in NO_INTEGERS:
            self.assertIs(is_integer(value), False, value)


class CheckNumber(ParcelCase):
    def test_at_and_between_the_bounds(self):
        for value in (3, 4, 7):
            self.assert_same(check_number("place", value, 3, 7), value)

    def test_below_and_above_the_bounds(self):
        for value in (-3, 2, 8, 10 ** 30):
            self.assert_told(BadNumber, {"what": "place", "value": value}, check_number, "place", value, 3, 7)

    def test_bounds_below_zero(self):
        self.assert_same(check_number("place", -2, -2, -1), -2)
        self.assert_told(BadNumber, {"what": "place", "value": 0}, check_number, "place", 0, -2, -1)
        self.assert_told(BadNumber, {"what": "place", "value": -3}, check_number, "place", -3, -2, -1)

    def test_high_zero_is_a_bound(self):
        self.assert_same(check_number("cost", 0, 0, 0), 0)
        self.assert_told(BadNumber, {"what": "cost", "value": 1}, check_number, "cost", 1, 0, 0)

    def test_no_upper_bound(self):
        for value in (3, 4, 10 ** 30):
            self.assert_same(check_number("cost", value, 3, None), value)
        self.assert_told(BadNumber, {"what": "cost", "value": 2}, check_number, "cost", 2, 3, None)

    def test_values_that_are_no_integers(self):
        for value in NO_INTEGERS:
            for high in (5, None):
                with self.subTest(value=value, high=high):
                    self.assert_told(BadNumber, {"what": "cost", "value": value}, check_number, "cost", value, 0, high)

    def test_the_very_value_is_kept(self):
        value = ["1"]
        with self.assertRaises(BadNumber) as caught:
            check_number("cost", value, 0, 5)
        self.assertIs(caught.exception.value, value)
        self.assertEqual(value, ["1"])


class ReadNumber(ParcelCase):
    def assert_bad(self, text):
        with self.subTest(text=text):
            self.assert_told(BadNumber, {"what": "number", "value": text}, read_number, text)

    def test_zero(self):
        self.assert_same(read_number("0"), 0)

    def test_one_to_six_digits(self):
        for number in (1, 9, 10, 24, 100, 305, 1000, 12345, 99999, 100000, 678090, 999999):
            self.assert_same(read_number(str(number)), number)

    def test_each_digit(self):
        for digit in "123456789":
            self.assert_same(read_number(digit), int(digit))
            self.assert_same(read_number("1" + digit), 10 + int(digit))

    def test_leading_zero(self):
        for text in ("00", "01", "007", "000000", "012345"):
            self.assert_bad(text)

    def test_seven_digits(self):
        for text in ("1000000", "1234567", "0000001", "9" * 5000):
            self.assert_bad(text)

    def test_empty(self):
        self.assert_bad("")

    def test_signs(self):
        for text in ("-", "+", "-1", "+1", "-0", "1-", "1+1", "1_0", "1.0", "1,0"):
            self.assert_bad(text)

    def test_spaces_and_newlines(self):
        for gap in (" ", "\n", "\t", "\r"):
            for text in (gap, gap + "12", "1" + gap + "2", "12" + gap, "0" + gap, gap + "0"):
                self.assert_bad(text)

    def test_letters(self):
        for text in ("x", "a1", "1a", "1e3", "0x1", "one", "O"):
            self.assert_bad(text)

    def test_signs_beside_the_digits(self):
        for text in ("/", ":", "1/", "1:"):
            self.assert_bad(text)

    def test_digits_that_are_not_ascii(self):
        for text in ("\u0663", "1\u0663", "\u00b2", "1\u00b2"):
            self.assert_bad(text)


if __name__ == "__main__":
    unittest.main()
