"""[14]: Prices."""

import unittest

from helper import ParcelCase
from widestparcels.costs import Prices
from widestparcels.errors import BadNumber

NO_INTEGERS = (True, False, None, "", "1", 1.0, (1,), [1])


class MakingPrices(ParcelCase):
    def test_attributes(self):
        for answer, silence in ((0, 1), (1, 0), (0, 100), (100, 0), (100, 100), (3, 7), (1, 1)):
            prices = Prices(answer, silence)
            self.assert_same(prices.answer, answer)
            self.assert_same(prices.silence, silence)
        prices = Prices(silence=2, answer=5)
        self.assertEqual((prices.answer, prices.silence), (5, 2))

    def test_wrong_prices(self):
        for value in (-1, 101, -100, 10 ** 30, *NO_INTEGERS):
            with self.subTest(value=value):
                self.assert_told(BadNumber, {"what": "answer", "value": value}, Prices, value, 1)
                self.assert_told(BadNumber, {"what": "answer", "value": value}, Prices, value, 0)
                self.assert_told(BadNumber, {"what": "silence", "value": value}, Prices, 1, value)
                self.assert_told(BadNumber, {"what": "silence", "value": value}, Prices, 0, value)

    def test_the_first_wrong_price_is_told(self):
        self.assert_told(BadNumber, {"what": "answer", "value": -1}, Prices, -1, 101)
        self.assert_told(BadNumber, {"what": "answer", "value": True}, Prices, True, None)

    def test_both_zero(self):
        self.assert_told(BadNumber, {"what": "prices", "value": 0}, Prices, 0, 0)

    def test_even(self):
        prices = Prices.even()
        self.assertIs(type(prices), Prices)
        self.assert_same(prices.answer, 1)
        self.assert_same(prices.silence, 1)
        self.assertIsNot(Prices.even(), Prices.even())


class ComparingPrices(ParcelCase):
    def test_equal(self):
        self.assertIs(Prices(3, 7) == Prices(3, 7), True)
        self.assertIs(Prices(3, 7) != Prices(3, 7), False)
        self.assertIs(Prices(1, 1) == Prices.even(), True)

    def test_not_equal(self):
        prices = Prices(3, 7)
        for other in (Prices(7, 3), Prices(3, 6), Prices(4, 7), Prices(6, 14), None, (3, 7), 3, "prices"):
            self.assertIs(prices == other, False)
            self.assertIs(other == prices, False)
            self.assertIs(prices != other, True)


class Multiplying(ParcelCase):
    def test_both_sides(self):
        for answer, silence, times in ((3, 7, 1), (3, 7, 2), (0, 1, 100), (50, 1, 2), (1, 0, 99), (10, 10, 10)):
            prices = Prices(answer, silence)
            wanted = Prices(answer * times, silence * times)
            for found in (prices * times, times * prices):
                self.assertIs(type(found), Prices)
                self.assertEqual(found, wanted)
            self.assertEqual(prices, Prices(answer, silence))

    def test_wrong_times(self):
        prices = Prices(3, 7)
        for times in (0, -1, -(10 ** 30), *NO_INTEGERS):
            with self.subTest(times=times):
                self.assert_told(BadNumber, {"what": "times", "value": times}, lambda: prices * times)
                self.assert_told(BadNumber, {"what": "times", "value": times}, lambda: times * prices)
        self.assertEqual(prices, Prices(3, 7))

    def test_products_that_are_too_great(self):
        for times in (15, 34, 10 ** 30):
            prices = Prices(3, 7)
            what, value = ("silence", 105) if times == 15 else ("answer", 3 * times)
            self.assert_told(BadNumber, {"what": what, "value": value}, lambda: prices * times)
            self.assert_told(BadNumber, {"what": what, "value": value}, lambda: times * prices)
        self.assert_told(BadNumber, {"what": "answer", "value": 101}, lambda: Prices(1, 0) * 101)
        self.assert_told(BadNumber, {"what": "silence", "value": 101}, lambda: 101 * Prices(0, 1))
        self.assertEqual(Prices(1, 0) * 100, Prices(100, 0))
        self.assertEqual(100 * Prices(0, 1), Prices(0, 100))


if __name__ == "__main__":
    unittest.main()
