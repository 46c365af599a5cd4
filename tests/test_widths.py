"""[2], [4] and [5]: Widths."""

import unittest

from helper import ParcelCase
from widestparcels.errors import BadNumber, BadOrder
from widestparcels.widths import Widths

NO_INTEGERS = (True, False, None, "", "10", 10.0, (10,), [10])


class MakingWidths(ParcelCase):
    def assert_bad_number(self, what, value, *widths):
        with self.subTest(widths=widths):
            self.assert_told(BadNumber, {"what": what, "value": value}, Widths, *widths)

    def assert_bad_order(self, place, *widths):
        with self.subTest(widths=widths):
            self.assert_told(BadOrder, {"place": place}, Widths, *widths)

    def test_numbers(self):
        self.assert_same(Widths(10, 20, 30).numbers, (10, 20, 30))

    def test_number_of_widths(self):
        for many in (1, 2, 23, 24):
            numbers = tuple(range(1, many + 1))
            self.assert_same(Widths(*numbers).numbers, numbers)
        self.assert_bad_number("widths", 0)
        self.assert_bad_number("widths", 25, *range(1, 26))
        self.assert_bad_number("widths", 30, *range(1, 31))

    def test_number_of_widths_is_told_before_any_width(self):
        self.assert_bad_number("widths", 25, *([0] * 25))
        self.assert_bad_number("widths", 25, "x", *range(1, 25))
        self.assert_bad_number("widths", 25, *range(25, 0, -1))

    def test_range_of_a_width(self):
        self.assertEqual(Widths(1).numbers, (1,))
        self.assertEqual(Widths(100000).numbers, (100000,))
        self.assertEqual(Widths(1, 100000).numbers, (1, 100000))
        for width in (0, -1, -100000, 100001, 10 ** 5000):
            self.assert_bad_number("width", width, width)
        self.assert_bad_number("width", 100001, 1, 2, 100001)
        self.assert_bad_number("width", 0, 1, 0, 2)

    def test_widths_that_are_no_integers(self):
        for width in NO_INTEGERS:
            self.assert_bad_number("width", width, width)
            self.assert_bad_number("width", width, 1, width, 20)
            self.assert_bad_number("width", width, 1, 2, width)

    def test_order(self):
        self.assert_bad_order(1, 5, 5)
        self.assert_bad_order(1, 5, 4)
        self.assert_bad_order(1, 5, 4, 3)
        self.assert_bad_order(2, 1, 5, 5, 6)
        self.assert_bad_order(2, 1, 5, 3, 6)
        self.assert_bad_order(3, 1, 2, 3, 3)
        # 3 is greater than 2, but 2 is not greater than 4.
        self.assert_bad_order(1, 4, 2, 3)

    def test_two_faults_at_once(self):
        # The number of a width is checked before its order.
        self.assert_bad_number("width", 0, 5, 0)
        self.assert_bad_number("width", True, 5, True)
        self.assert_bad_number("width", -1, 1, 2, -1)
        # A fault at an earlier place is told first, of whatever kind it is.
        self.assert_bad_order(1, 5, 5, 0)
        self.assert_bad_order(1, 5, 5, "x")
        self.assert_bad_order(1, 5, 4, 100001)
        self.assert_bad_number("width", 0, 5, 0, 0)
        self.assert_bad_number("width", 0, 0, 0)
        self.assert_bad_number("width", "x", 5, "x", 4)
        self.assert_bad_order(1, 9, 8, 7)
        self.assert_bad_number("width", 100001, 100001, 100002)

    def test_the_very_value_is_kept(self):
        value = [1]
        with self.assertRaises(BadNumber) as caught:
            Widths(1, value)
        self.assertIs(caught.exception.value, value)

    def test_a_list_that_was_passed_does_not_matter_later(self):
        numbers = [1, 2, 3]
        widths = Widths(*numbers)
        numbers.append(4)
        numbers[0] = 9
        self.assertEqual(widths.numbers, (1, 2, 3))


class ReadingWidths(ParcelCase):
    def setUp(self):
        self.widths = Widths(1, 20, 30)

    def test_items(self):
        self.assert_same(self.widths[0], 1)
        self.assert_same(self.widths[1], 20)
        self.assert_same(self.widths[2], 30)
        self.assert_same(Widths(7)[0], 7)

    def test_other_places(self):
        for at in (-1, -3, 3, 4, True, False, None, "", "0", 0.0, (0,)):
            with self.subTest(at=at):
                self.assert_told(BadNumber, {"what": "place", "value": at}, lambda: self.widths[at])
        self.assert_told(BadNumber, {"what": "place", "value": 1}, lambda: Widths(7)[1])
        self.assert_told(BadNumber, {"what": "place", "value": slice(0, 1, None)}, lambda: self.widths[0:1])

    def test_in(self):
        for x in (1, 20, 30):
            self.assertIs(x in self.widths, True, x)
        for x in (0, 2, 19, 31, -1, 10 ** 30, True, False, None, "", "1", "20", 20.0, (1,), [1], self.widths):
            self.assertIs(x in self.widths, False, x)
            self.assertIs(x not in self.widths, True, x)

    def test_len(self):
        self.assert_same(len(Widths(7)), 1)
        self.assert_same(len(self.widths), 3)
        self.assert_same(len(Widths(*range(1, 25))), 24)

    def test_iteration(self):
        self.assertEqual(list(self.widths), [1, 20, 30])
        # Each iteration starts anew, also inside of another one.
        self.assertEqual([(a, b) for a in Widths(1, 2) for b in Widths(1, 2)], [(1, 1), (1, 2), (2, 1), (2, 2)])
        self.assertEqual(list(self.widths), [1, 20, 30])

    def test_equality(self):
        self.assertIs(self.widths == Widths(1, 20, 30), True)
        self.assertIs(self.widths != Widths(1, 20, 30), False)
        for other in (Widths(1, 20), Widths(1, 20, 31), Widths(1, 20, 30, 40), Widths(2, 20, 30)):
            self.assertIs(self.widths == other, False)
            self.assertIs(self.widths != other, True)

    def test_other_kinds_are_not_equal(self):
        for other in ((1, 20, 30), [1, 20, 30], None, 1, "1"):
            self.assertIs(self.widths == other, False)
            self.assertIs(self.widths != other, True)


class JoiningWidths(ParcelCase):
    def setUp(self):
        self.first = Widths(10, 20, 30, 40)
        self.second = Widths(5, 20, 35, 40, 50)
        self.apart = Widths(60, 70)
        self.part = Widths(20, 40)

    def tearDown(self):
        self.assertEqual(self.first.numbers, (10, 20, 30, 40))
        self.assertEqual(self.second.numbers, (5, 20, 35, 40, 50))
        self.assertEqual(self.apart.numbers, (60, 70))
        self.assertEqual(self.part.numbers, (20, 40))

    def assert_widths(self, found, *numbers):
        self.assertIs(type(found), Widths)
        self.assert_same(found.numbers, numbers)

    def test_or(self):
        self.assert_widths(self.first | self.second, 5, 10, 20, 30, 35, 40, 50)
        self.assert_widths(self.second | self.first, 5, 10, 20, 30, 35, 40, 50)
        self.assert_widths(self.first | self.apart, 10, 20, 30, 40, 60, 70)
        self.assert_widths(self.apart | self.first, 10, 20, 30, 40, 60, 70)
        self.assert_widths(self.first | Widths(10, 20, 30, 40), 10, 20, 30, 40)
        self.assert_widths(self.part | self.first, 10, 20, 30, 40)
        self.assert_widths(self.first | self.first, 10, 20, 30, 40)
        # In ascending order of the numbers, not of their digits.
        self.assert_widths(Widths(9, 100) | Widths(10, 1000), 9, 10, 100, 1000)

    def test_or_of_many(self):
        low = Widths(*range(1, 13))
        self.assert_widths(low | Widths(*range(13, 25)), *range(1, 25))
        self.assert_widths(Widths(*range(1, 25)) | Widths(*range(1, 25)), *range(1, 25))
        high = Widths(*range(13, 26))
        self.assert_told(BadNumber, {"what": "widths", "value": 25}, lambda: low | high)
        self.assert_told(
            BadNumber,
            {"what": "widths", "value": 48},
            lambda: Widths(*range(1, 25)) | Widths(*range(25, 49)),
        )
        self.assertEqual(low.numbers, tuple(range(1, 13)))
        self.assertEqual(high.numbers, tuple(range(13, 26)))

    def test_and(self):
        self.assert_widths(self.first & self.second, 20, 40)
        self.assert_widths(self.second & self.first, 20, 40)
        self.assert_widths(self.first & self.part, 20, 40)
        self.assert_widths(self.first & Widths(10, 20, 30, 40), 10, 20, 30, 40)

    def test_and_of_separate_lists(self):
        self.assert_told(BadNumber, {"what": "widths", "value": 0}, lambda: self.first & self.apart)
        self.assert_told(BadNumber, {"what": "widths", "value": 0}, lambda: self.apart & self.first)

    def test_minus(self):
        self.assert_widths(self.first - self.second, 10, 30)
        self.assert_widths(self.second - self.first, 5, 35, 50)
        self.assert_widths(self.first - self.apart, 10, 20, 30, 40)
        self.assert_widths(self.first - self.part, 10, 30)

    def test_minus_of_which_nothing_is_left(self):
        none = {"what": "widths", "value": 0}
        self.assert_told(BadNumber, none, lambda: self.first - Widths(10, 20, 30, 40))
        self.assert_told(BadNumber, none, lambda: self.part - self.first)
        self.assert_told(BadNumber, none, lambda: self.first - self.first)

    def test_not_greater(self):
        self.assertIs(self.part <= self.first, True)
        self.assertIs(self.part <= self.second, True)
        self.assertIs(self.first <= self.first, True)
        self.assertIs(self.first <= Widths(10, 20, 30, 40), True)
        self.assertIs(self.first <= self.part, False)
        self.assertIs(self.first <= self.second, False)
        self.assertIs(self.second <= self.first, False)
        self.assertIs(self.first <= self.apart, False)
        # It is not the order of the numbers: every single width counts.
        self.assertIs(Widths(1) <= Widths(2), False)
        self.assertIs(Widths(10, 25) <= self.first, False)
        self.assertIs(Widths(5, 10) <= self.first, False)

    def test_the_result_is_another_list(self):
        joined = self.first | self.part
        self.assertEqual(joined, self.first)
        self.assertIsNot(joined, self.first)


class BelowAWidth(ParcelCase):
    def test_integers(self):
        widths = Widths(10, 20, 30)
        wanted = {-(10 ** 30): 0, -1: 0, 0: 0, 9: 0, 10: 0, 11: 1, 20: 1, 21: 2, 30: 2, 31: 3, 100001: 3, 10 ** 30: 3}
        for x, number in wanted.items():
            self.assert_same(widths.below(x), number)
        self.assert_same(widths.below(x=20), 1)
        self.assertEqual(widths.numbers, (10, 20, 30))

    def test_values_that_are_no_integers(self):
        for x in NO_INTEGERS:
            with self.subTest(x=x):
                self.assert_told(BadNumber, {"what": "width", "value": x}, Widths(10, 20).below, x)


if __name__ == "__main__":
    unittest.main()
