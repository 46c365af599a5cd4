"""[17]: the least cost of a log and its best probes."""

import unittest

from helper import ParcelCase
from plain import KINDS, all_logs, branches, game, make_log, needs_of, possible, wide_log
from widestparcels.best import best_probes, extras, least_cost, worst_answer
from widestparcels.costs import Costs, Prices
from widestparcels.errors import BadNumber, Impossible

NUMBERS = (1, 5, 7, 9)
PAIRS_OF_PRICES = ((1, 1), (2, 3), (5, 1), (0, 1), (1, 0))


def wanted_for(log, answer, silence):
    """The least cost, the extras and the worst answers, told by the game over the needs."""
    needs = tuple(need for need in needs_of(log).values() if need is not None)
    kind = (log.road.losses, log.road.in_a_row, answer, silence)
    least = game(needs, *kind)
    extra, worst = [], {}
    for below, probe in enumerate(possible(log)):
        if below > 0:
            yes, no = branches(needs, below, *kind)
            extra.append((probe, max(yes, no) - least))
            worst[probe] = yes >= no
    return least, extra, worst


class AgainstTheGame(ParcelCase):
    def assert_right(self, log, answer, silence):
        prices = Prices(answer, silence)
        least, extra, worst = wanted_for(log, answer, silence)
        self.assert_same(least_cost(log, prices), least)
        self.assert_same(extras(log, prices), extra)
        self.assert_same(best_probes(log, prices), [probe for probe, more in extra if more == 0])
        for probe, wanted in worst.items():
            self.assertIs(worst_answer(log, prices, probe), wanted)

    def test_all_short_logs(self):
        for log in all_logs(NUMBERS, 2):
            if possible(log):
                for answer, silence in PAIRS_OF_PRICES:
                    self.assert_right(log, answer, silence)

    def test_wider_roads(self):
        for losses, in_a_row in KINDS:
            for pairs in ((), ((4, True),), ((6, False),), ((4, False), (3, True), (6, False))):
                log = wide_log(8, losses, in_a_row, *pairs)
                if possible(log):
                    for answer, silence in PAIRS_OF_PRICES:
                        self.assert_right(log, answer, silence)

    def test_hundred_pairs(self):
        for losses, in_a_row in KINDS:
            pairs = [(5, True)] * 97 + [(7, False), (5, True), (9, False)]
            log = make_log(NUMBERS, losses, in_a_row, *pairs)
            self.assertEqual(len(log), 100)
            for answer, silence in PAIRS_OF_PRICES:
                self.assert_right(log, answer, silence)

    def test_the_widest_roads(self):
        for in_a_row, least in ((False, 10), (True, 16)):
            log = wide_log(24, 3, in_a_row)
            costs = Costs(3, Prices.even(), in_a_row=in_a_row)
            self.assertEqual(least_cost(log, Prices.even()), least)
            below = costs.best((24, 0, 0, 0))
            self.assertEqual(best_probes(log, Prices.even()), [number + 1 for number in below])
            found = [(number + 1, costs.extra((24, 0, 0, 0), number)) for number in range(1, 24)]
            self.assertEqual(extras(log, Prices.even()), found)


class SingleLogs(ParcelCase):
    def test_the_price_of_the_answer_counts_for_the_worst_answer(self):
        # Each answer leaves one width, so the prices alone tell which branch is dearer.
        log = make_log((10, 20), 0, False)
        self.assertIs(worst_answer(log, Prices(2, 1), 20), True)
        self.assertIs(worst_answer(log, Prices(1, 1), 20), True)
        self.assertIs(worst_answer(log, Prices(1, 2), 20), False)

    def test_known_widths(self):
        for log in (make_log((10,), 1, True), make_log((10, 20), 0, False, (20, False))):
            self.assert_same(least_cost(log, Prices(3, 4)), 0)
            self.assert_same(best_probes(log, Prices(3, 4)), [])
            self.assert_same(extras(log, Prices(3, 4)), [])

    def test_lists_may_be_changed(self):
        log = make_log((10, 20, 30), 0, False)
        best_probes(log, Prices.even()).append(1)
        extras(log, Prices.even()).append(1)
        self.assertEqual(best_probes(log, Prices.even()), [20, 30])
        self.assertEqual(extras(log, Prices.even()), [(20, 0), (30, 0)])
        self.assertEqual(log.pairs, ())


class Errors(ParcelCase):
    def test_impossible_logs(self):
        for log in (
            make_log((10, 20), 0, False, (20, False), (20, True)),
            make_log((10, 20, 30), 1, True, (20, False), (20, False), (20, True)),
        ):
            for function in (least_cost, best_probes, extras):
                self.assert_told(Impossible, {}, function, log, Prices.even())
            for probe in (20, 10, 25, True, None):
                self.assert_told(Impossible, {}, worst_answer, log, Prices.even(), probe)

    def test_probes_that_are_not_useful(self):
        log = make_log((1, 5, 7, 9, 11), 0, False, (5, True), (11, False))
        self.assertEqual(log.useful(), [7, 9])
        for probe in (5, 11, 1, 0, 8, -7, 100, 10 ** 30, True, False, None, "7", 7.0, (7,), [7]):
            with self.subTest(probe=probe):
                self.assert_told(BadNumber, {"what": "probe", "value": probe}, worst_answer, log, Prices.even(), probe)

    def test_no_probe_is_useful_if_the_width_is_known(self):
        log = make_log((10, 20), 0, False, (20, True))
        self.assert_told(BadNumber, {"what": "probe", "value": 20}, worst_answer, log, Prices.even(), 20)


if __name__ == "__main__":
    unittest.main()
