"""The examples of the document, all of them."""

import unittest

from helper import ParcelCase
from widestparcels.apart import apart
from widestparcels.console import console
from widestparcels.costs import Costs, Prices
from widestparcels.courses import courses
from widestparcels.errors import BadPlan
from widestparcels.houses import HouseLog, least_probes, told_probe
from widestparcels.log import Log
from widestparcels.papers import check_at_least
from widestparcels.plans import check_plan, told_plan
from widestparcels.road import Road
from widestparcels.rows import answered_row, silent_row
from widestparcels.widths import Widths


class Examples(ParcelCase):
    def test_costs_in_all(self):
        costs = Costs(1, Prices.even())
        self.assert_same([costs((3, 0)), costs((2, 1)), costs.best((3, 0))], [3, 2, [1, 2]])

    def test_costs_in_a_row(self):
        costs = Costs(1, Prices.even(), in_a_row=True)
        self.assert_same([costs((3, 0)), costs((2, 1)), costs.best((3, 0))], [3, 3, [1]])

    def test_log(self):
        log = Log(Road(Widths(10, 20, 30, 40), 1), (30, False), (30, False))
        found = [log.needs(), log.row(), log.useful()]
        self.assert_same(found, [{10: 0, 20: 0, 30: None, 40: None}, (2, 0), [20]])

    def test_rows(self):
        found = [answered_row((2, 1), 1), silent_row((2, 1), 1), silent_row((3, 0), 2)]
        self.assert_same(found, [(1, 1), (1, 1), (2, 1)])

    def test_apart(self):
        prices = Prices(2, 1)
        found = [apart(1, prices), apart(2, prices), apart(3, prices), apart(4, prices)]
        self.assert_same(found, [1, 2, 3, 5])

    def test_house_log(self):
        log = HouseLog(Widths(10, 20, 30), 2, (30, 20))
        found = [log.can_be(), log.houses_left(), least_probes(log), told_probe(log)]
        self.assert_same(found, [[10, 20], 1, 1, 20])

    def test_told_plan_and_courses(self):
        log = Log(Road(Widths(1, 2, 3), 0))
        plan = told_plan(log, Prices.even())
        self.assertEqual(list(plan), [(3,), (2,)])
        wanted = [{(3,): 1, (2,): 1}, [[(2, True), (3, True)], [(2, True), (3, False)], [(2, False)]]]
        self.assert_same([plan, list(courses(log, plan))], wanted)

    def test_plan_that_lacks_a_row(self):
        log = Log(Road(Widths(1, 2, 3), 0))
        self.assert_told(BadPlan, {"state": (3,), "reason": "lacks"}, check_plan, log, Prices.even(), {})

    def test_certificate(self):
        pairs = [((3, 0), 3), ((2, 0), 2), ((2, 1), 2), ((1, 1), 1)]
        self.assertIs(check_at_least(Log(Road(Widths(1, 2, 3), 1)), Prices.even(), 3, pairs), True)

    def test_console(self):
        lines = ["best", "tell 20 yes", "table", "tell 30 no", "best"]
        found = console(Road(Widths(10, 20, 30), 0), Prices.even(), lines)
        self.assert_same(found, ["20 30", "done", "    30    0", "done", "known 20"])


if __name__ == "__main__":
    unittest.main()
