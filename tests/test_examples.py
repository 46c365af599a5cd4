"""The examples of the document, as far as their modules have landed."""

import unittest

from helper import ParcelCase
from widestparcels.costs import Costs, Prices
from widestparcels.log import Log
from widestparcels.road import Road
from widestparcels.rows import answered_row, silent_row
from widestparcels.widths import Widths


class Examples(ParcelCase):
    def test_costs_in_all(self):
        costs = Costs(1, Prices.even())
        self.assert_same([costs((3, 0)), costs((2, 1)), costs.best((3, 0))], [3, 2, [1, 2]])

    def test_costs_in_a_row(self):
        costs = Costs(1, Prices.even(), in_a_row=True)
        self.assert_same([costs((3, 0)), costs((2, 1)), costs.best((3, 0))], [3, 3, [1]])

    def test_log(self):
        log = Log(Road(Widths(10, 20, 30, 40), 1), (30, False), (30, False))
        found = [log.needs(), log.row(), log.useful()]
        self.assert_same(found, [{10: 0, 20: 0, 30: None, 40: None}, (2, 0), [20]])

    def test_rows(self):
        found = [answered_row((2, 1), 1), silent_row((2, 1), 1), silent_row((3, 0), 2)]
        self.assert_same(found, [(1, 1), (1, 1), (2, 1)])


if __name__ == "__main__":
    unittest.main()
