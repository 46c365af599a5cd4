"""[24] and [25], with [16]: how many widths can be told apart for a cost."""

import unittest

from helper import ParcelCase
from plain import KINDS, game
from widestparcels.apart import apart, most_apart, to_strike
from widestparcels.costs import Costs, Prices
from widestparcels.errors import BadNumber
from widestparcels.road import Road
from widestparcels.widths import Widths

NO_NUMBERS = (True, False, None, "1", 1.0, (1,), [1])


def plain_apart(v, answer, silence):
    if v < answer or v < silence:
        return 1
    return plain_apart(v - answer, answer, silence) + plain_apart(v - silence, answer, silence)


def first_numbers(many):
    return Widths(*range(1, many + 1))


def plain_most(many, losses, in_a_row, answer, silence, v):
    """The greatest number of widths whose game costs at most v."""
    return max(
        number
        for number in range(1, many + 1)
        if game((0,) * number, losses, in_a_row, answer, silence) <= v
    )


class Apart(ParcelCase):
    def test_against_the_words(self):
        for answer in range(1, 8):
            for silence in range(1, 8):
                for v in range(16):
                    self.assert_same(apart(v, Prices(answer, silence)), plain_apart(v, answer, silence))

    def test_example(self):
        prices = Prices(2, 1)
        self.assertEqual([apart(v, prices) for v in (1, 2, 3, 4)], [1, 2, 3, 5])

    def test_less_than_one_of_the_prices(self):
        for answer, silence in ((1, 100), (100, 1), (60, 100)):
            for v in (0, 1, 59, 60, 99):
                self.assert_same(apart(v, Prices(answer, silence)), 1)
        self.assert_same(apart(100, Prices(60, 100)), 2)
        self.assert_same(apart(100, Prices(100, 60)), 2)
        self.assert_same(apart(0, Prices.even()), 1)

    def test_equal_prices(self):
        for price in (1, 2, 7, 100):
            for v in (0, price - 1, price, price + 1, 10 * price, 10 * price + price - 1):
                self.assert_same(apart(v, Prices(price, price)), 2 ** (v // price))

    def test_numbers_far_above_24(self):
        self.assertEqual(apart(64, Prices.even()), 2 ** 64)
        self.assertEqual(apart(10000, Prices.even()), 2 ** 10000)
        # With the prices 1 and 2 these are the numbers of Fibonacci.
        wanted = [1, 1]
        while len(wanted) < 300:
            wanted.append(wanted[-2] + wanted[-1])
        self.assertEqual([apart(v, Prices(1, 2)) for v in range(300)], wanted)

    def test_great_costs_soon(self):
        self.assertEqual(apart(10000, Prices(100, 100)), 2 ** 100)
        prices = Prices(50, 51)
        found = apart(10000, prices)
        self.assertEqual(found, apart(9950, prices) + apart(9949, prices))
        self.assertGreater(found, 2 ** 196)
        self.assertLess(found, 2 ** 200)
        self.assertEqual(apart(10000, Prices(51, 50)), found)
        self.assertEqual(apart(10000, Prices(1, 100)), apart(9999, Prices(1, 100)) + apart(9900, Prices(1, 100)))

    def test_ends_of_the_cost(self):
        self.assertEqual(apart(0, Prices(1, 1)), 1)
        self.assertEqual(apart(10000, Prices(100, 99)), apart(9900, Prices(100, 99)) + apart(9901, Prices(100, 99)))
        for v in (-1, -10 ** 30, 10001, 10 ** 30, *NO_NUMBERS):
            self.assert_told(BadNumber, {"what": "cost", "value": v}, apart, v, Prices.even())

    def test_prices_of_zero(self):
        for prices in (Prices(0, 1), Prices(1, 0), Prices(0, 100)):
            for v in (0, 1, 50, 10000):
                self.assert_told(BadNumber, {"what": "prices", "value": 0}, apart, v, prices)

    def test_a_wrong_cost_is_told_before_the_prices(self):
        for prices in (Prices(0, 1), Prices(1, 0)):
            for v in (-1, 10001, True, None):
                self.assert_told(BadNumber, {"what": "cost", "value": v}, apart, v, prices)

    def test_the_costs_of_rows_of_one_number(self):
        for answer, silence in ((1, 1), (2, 1), (1, 3), (7, 5), (100, 1), (99, 100)):
            prices = Prices(answer, silence)
            costs = Costs(0, prices)
            for number in range(1, 25):
                least = next(v for v in range(10001) if apart(v, prices) >= number)
                self.assertEqual(costs((number,)), least)


class MostApart(ParcelCase):
    def test_against_the_game(self):
        for losses, in_a_row in KINDS:
            for many in (1, 2, 4, 6):
                road = Road(first_numbers(many), losses, in_a_row=in_a_row)
                for answer, silence in ((1, 1), (2, 1), (1, 3), (0, 1), (1, 0), (7, 5)):
                    prices = Prices(answer, silence)
                    for v in (*range(13), 20, 30, 1000):
                        wanted = plain_most(many, losses, in_a_row, answer, silence, v)
                        self.assert_same(most_apart(road, prices, v), wanted)
                        self.assert_same(to_strike(road, prices, v), many - wanted)

    def test_single_roads(self):
        road = Road(first_numbers(10), 0)
        self.assertEqual([most_apart(road, Prices.even(), v) for v in range(6)], [1, 2, 4, 8, 10, 10])
        self.assertEqual([to_strike(road, Prices.even(), v) for v in range(6)], [9, 8, 6, 2, 0, 0])

    def test_only_the_number_of_the_widths_matters(self):
        for losses, in_a_row in KINDS:
            roads = [
                Road(widths, losses, in_a_row=in_a_row)
                for widths in (first_numbers(5), Widths(3, 10, 500, 501, 100000))
            ]
            for v in range(12):
                self.assertEqual(*[most_apart(road, Prices(2, 3), v) for road in roads])
                self.assertEqual(*[to_strike(road, Prices(2, 3), v) for road in roads])

    def test_a_cost_of_zero(self):
        for losses, in_a_row in KINDS:
            road = Road(first_numbers(6), losses, in_a_row=in_a_row)
            for prices in (Prices.even(), Prices(0, 1), Prices(1, 0)):
                self.assert_same(most_apart(road, prices, 0), 1)
                self.assert_same(to_strike(road, prices, 0), 5)

    def test_a_price_of_zero_is_no_error(self):
        # Silences alone are paid: the probes are sent from the least one on.
        road = Road(first_numbers(6), 0)
        self.assertEqual([most_apart(road, Prices(0, 1), v) for v in (0, 1, 2)], [1, 6, 6])
        self.assertEqual([most_apart(road, Prices(1, 0), v) for v in (0, 1, 2)], [1, 6, 6])

    def test_a_road_of_one_width(self):
        road = Road(Widths(7), 3, in_a_row=True)
        for v in (0, 1, 10 ** 30):
            self.assert_same(most_apart(road, Prices.even(), v), 1)
            self.assert_same(to_strike(road, Prices.even(), v), 0)

    def test_roads_with_24_widths(self):
        for losses, in_a_row in KINDS:
            road = Road(first_numbers(24), losses, in_a_row=in_a_row)
            for prices in (Prices.even(), Prices(3, 2)):
                costs = Costs(losses, prices, in_a_row=in_a_row)
                starts = [costs((number,) + (0,) * losses) for number in range(1, 25)]
                for v in (0, 1, 4, 7, starts[11], starts[22], starts[23] - 1, starts[23], starts[23] + 1, 10 ** 30):
                    wanted = len([cost for cost in starts if cost <= v])
                    self.assert_same(most_apart(road, prices, v), wanted)
                    self.assert_same(to_strike(road, prices, v), 24 - wanted)
        self.assertEqual(most_apart(Road(first_numbers(24), 0), Prices.even(), 4), 16)
        self.assertEqual(most_apart(Road(first_numbers(24), 0), Prices.even(), 5), 24)

    def test_the_kind_of_the_road_matters(self):
        prices = Prices.even()
        self.assertEqual(most_apart(Road(first_numbers(9), 1), prices, 4), 6)
        self.assertEqual(most_apart(Road(first_numbers(9), 1, in_a_row=True), prices, 4), 4)

    def test_wrong_costs(self):
        for road in (Road(first_numbers(3), 1), Road(Widths(7), 0)):
            for prices in (Prices.even(), Prices(0, 1)):
                for v in (-1, -10 ** 30, *NO_NUMBERS):
                    for call in (most_apart, to_strike):
                        self.assert_told(BadNumber, {"what": "cost", "value": v}, call, road, prices, v)

    def test_costs_above_10000_are_right(self):
        road = Road(first_numbers(3), 1)
        self.assert_same(most_apart(road, Prices(100, 100), 10001), 3)
        self.assert_same(to_strike(road, Prices(100, 100), 10 ** 30), 0)


if __name__ == "__main__":
    unittest.main()
