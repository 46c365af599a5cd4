"""[15] and [16]: Costs, and what holds for them."""

import functools
import itertools
import unittest

from helper import ParcelCase
from plain import KINDS, branches, dearer, game, needs_in, rows
from widestparcels.costs import Costs, Prices
from widestparcels.errors import BadNumber, BadRow
from widestparcels.rows import answered_row, silent_row, sits_in

PAIRS_OF_PRICES = ((1, 1), (2, 1), (1, 2), (0, 1), (1, 0), (3, 7), (100, 1), (1, 100), (100, 0), (13, 5))
MOST = {0: 12, 1: 9, 2: 7, 3: 6}


def all_costs():
    """The costs of all kinds of roads with several prices, and what tells the game of each."""
    for losses, in_a_row in KINDS:
        for answer, silence in PAIRS_OF_PRICES:
            kind = (losses, in_a_row, answer, silence)
            yield Costs(losses, Prices(answer, silence), in_a_row=in_a_row), kind


class MakingCosts(ParcelCase):
    def test_attributes(self):
        prices = Prices(3, 7)
        for losses, in_a_row in KINDS:
            costs = Costs(losses, prices, in_a_row=in_a_row)
            self.assert_same(costs.losses, losses)
            self.assertIs(costs.prices, prices)
            self.assertIs(costs.in_a_row, in_a_row)
        self.assertIs(Costs(1, prices).in_a_row, False)
        self.assertEqual(Costs(losses=2, prices=prices).losses, 2)

    def test_in_a_row_is_given_by_name(self):
        with self.assertRaises(TypeError):
            Costs(1, Prices(1, 1), True)

    def test_wrong_losses(self):
        for losses in (-1, 4, 10 ** 30, True, False, None, "1", 1.0, (1,)):
            for in_a_row in (False, True):
                wanted = {"what": "losses", "value": losses}
                self.assert_told(BadNumber, wanted, Costs, losses, Prices(1, 1), in_a_row=in_a_row)


class Reckoning(ParcelCase):
    def test_against_the_game_over_the_needs(self):
        for costs, kind in all_costs():
            for row in rows(costs.losses + 1, MOST[costs.losses]):
                self.assert_same(costs(row), game(needs_in(row), *kind))

    def test_best_and_extra_against_the_game(self):
        for costs, kind in all_costs():
            for row in rows(costs.losses + 1, 5):
                needs = needs_in(row)
                worst = [dearer(needs, below, *kind) for below in range(1, len(needs))]
                least = min(worst, default=0)
                self.assert_same(costs.best(row), [at + 1 for at, cost in enumerate(worst) if cost == least])
                for at, cost in enumerate(worst):
                    self.assert_same(costs.extra(row, at + 1), cost - least)

    def test_rows_of_sum_one(self):
        for costs, _ in all_costs():
            for place in range(costs.losses + 1):
                row = (0,) * place + (1,) + (0,) * (costs.losses - place)
                self.assert_same(costs(row), 0)
                self.assert_same(costs.best(row), [])

    def test_calls_do_not_disturb_each_other(self):
        costs = Costs(2, Prices(2, 3))
        first = [costs((5, 1, 0)), costs((2, 2, 2)), costs((5, 1, 0))]
        second = [Costs(2, Prices(2, 3))(row) for row in ((5, 1, 0), (2, 2, 2), (5, 1, 0))]
        self.assertEqual(first, second)
        self.assertEqual(Costs(2, Prices(2, 4))((5, 1, 0)), game(needs_in((5, 1, 0)), 2, False, 2, 4))

    def test_wide_rows(self):
        # 2 ** 5 is the first power of 2 that is at least 24.
        self.assertEqual(Costs(0, Prices.even())((24,)), 5)
        self.assertEqual(Costs(0, Prices.even(), in_a_row=True)((24,)), 5)
        self.assertEqual(Costs(0, Prices.even()).best((24,)), list(range(8, 17)))
        for losses, in_a_row in ((1, False), (1, True), (2, False), (2, True)):
            row = (12,) + (0,) * losses
            costs = Costs(losses, Prices(3, 2), in_a_row=in_a_row)
            self.assertEqual(costs(row), game(needs_in(row), losses, in_a_row, 3, 2))

    def test_the_widest_rows_are_reckoned_soon(self):
        # These have about 20000 rows that can come, but very many more ways of answers.
        for in_a_row, wanted in ((False, 10), (True, 16)):
            costs = Costs(3, Prices.even(), in_a_row=in_a_row)
            self.assertEqual(costs((24, 0, 0, 0)), wanted)
            extras = [costs.extra((24, 0, 0, 0), below) for below in range(1, 24)]
            self.assertEqual(costs.best((24, 0, 0, 0)), [at + 1 for at, extra in enumerate(extras) if extra == 0])

    def test_lists_may_be_changed(self):
        costs = Costs(1, Prices.even())
        best = costs.best((3, 0))
        best.append(9)
        best[0] = 7
        self.assertEqual(costs.best((3, 0)), [1, 2])
        self.assertIsNot(costs.best((1, 0)), costs.best((1, 0)))


class WrongRows(ParcelCase):
    def assert_bad_row(self, costs, row):
        with self.subTest(losses=costs.losses, row=row):
            self.assert_told(BadRow, {"value": row}, costs, row)
            self.assert_told(BadRow, {"value": row}, costs.best, row)
            for below in (1, 0, True, None):
                self.assert_told(BadRow, {"value": row}, costs.extra, row, below)

    def test_no_rows(self):
        for row in ((), (0, 0), (25, 0), (24, 1), (-1, 3), (True, 1), (1, None), [2, 0], [1, 0], None, 2, "2", {}):
            self.assert_bad_row(Costs(1, Prices.even()), row)
        for row in ([1], [3], (0,), (25,), (True,)):
            self.assert_bad_row(Costs(0, Prices.even()), row)

    def test_rows_with_other_losses(self):
        for losses, in_a_row in KINDS:
            for length in range(1, 5):
                if length != losses + 1:
                    costs = Costs(losses, Prices.even(), in_a_row=in_a_row)
                    self.assert_bad_row(costs, (1,) + (0,) * (length - 1))
                    self.assert_bad_row(costs, (3,) * length)

    def test_the_very_value_is_kept(self):
        row = [2, 0]
        with self.assertRaises(BadRow) as caught:
            Costs(1, Prices.even())(row)
        self.assertIs(caught.exception.value, row)

    def test_wrong_numbers_below(self):
        for in_a_row in (False, True):
            costs = Costs(1, Prices.even(), in_a_row=in_a_row)
            for row in ((3, 0), (1, 2), (0, 3)):
                for below in (0, -1, 3, 4, 10 ** 30, True, False, None, "1", 1.0):
                    self.assert_told(BadNumber, {"what": "below", "value": below}, costs.extra, row, below)
            for below in (0, 1, True):
                self.assert_told(BadNumber, {"what": "below", "value": below}, costs.extra, (0, 1), below)


@functools.lru_cache(maxsize=None)
def told_apart(cost, answer, silence):
    """The greatest number of widths that can be told apart without losses for the cost."""
    if cost < answer or cost < silence:
        return 1
    return told_apart(cost - answer, answer, silence) + told_apart(cost - silence, answer, silence)


class WhatHolds(ParcelCase):
    def test_a_row_that_sits_in_another_costs_no_more(self):
        for losses, most in ((0, 8), (1, 5), (2, 4), (3, 3)):
            for in_a_row in (False, True):
                for answer, silence in PAIRS_OF_PRICES:
                    costs = Costs(losses, Prices(answer, silence), in_a_row=in_a_row)
                    for first, second in itertools.product(rows(losses + 1, most), repeat=2):
                        if sits_in(first, second):
                            self.assertLessEqual(costs(first), costs(second), (first, second))

    def test_in_all_costs_no_more_than_in_a_row(self):
        for losses in range(4):
            for answer, silence in PAIRS_OF_PRICES:
                in_all = Costs(losses, Prices(answer, silence))
                in_a_row = Costs(losses, Prices(answer, silence), in_a_row=True)
                for row in rows(losses + 1, MOST[losses]):
                    self.assertLessEqual(in_all(row), in_a_row(row))

    def test_costs_never_fall_when_a_price_rises(self):
        for losses, in_a_row in KINDS:
            found = {}
            for answer, silence in itertools.product((0, 1, 2, 5), repeat=2):
                if answer or silence:
                    costs = Costs(losses, Prices(answer, silence), in_a_row=in_a_row)
                    found[answer, silence] = [costs(row) for row in rows(losses + 1, 5)]
            for low, high in itertools.product(found, repeat=2):
                if low[0] <= high[0] and low[1] <= high[1]:
                    self.assertTrue(all(a <= b for a, b in zip(found[low], found[high])), (low, high))

    def test_costs_are_multiplied_with_the_prices(self):
        for losses, in_a_row in KINDS:
            for answer, silence in ((1, 1), (2, 1), (1, 2), (0, 1), (1, 0)):
                prices = Prices(answer, silence)
                costs = Costs(losses, prices, in_a_row=in_a_row)
                for times in (1, 3, 50):
                    more = Costs(losses, prices * times, in_a_row=in_a_row)
                    for row in rows(losses + 1, 5):
                        self.assertEqual(more(row), costs(row) * times)
                        self.assertEqual(more.best(row), costs.best(row))

    def test_probes_that_are_not_useful_never_help(self):
        # A probe below all that can be is sent: an answer leaves the widths, in a row without a need,
        # and a silence gives each one loss more. A probe above all is silent and leaves the row.
        for costs, kind in all_costs():
            losses, in_a_row, answer, silence = kind
            for row in rows(losses + 1, 5):
                needs = needs_in(row)
                yes = (sum(row),) + (0,) * losses if in_a_row else row
                no = tuple(need + 1 for need in needs if need < losses)
                sent = answer + costs(yes)
                if no:
                    sent = max(sent, silence + game(no, *kind))
                self.assertGreaterEqual(sent, costs(row))

    def test_rows_of_one_number_and_widths_told_apart(self):
        for answer, silence in ((1, 1), (2, 1), (1, 2), (3, 7), (7, 3), (100, 1), (1, 100), (13, 5)):
            costs = Costs(0, Prices(answer, silence))
            for many in range(1, 25):
                least = next(v for v in itertools.count() if told_apart(v, answer, silence) >= many)
                self.assertEqual(costs((many,)), least)

    def test_the_branches_are_rows(self):
        for costs, kind in all_costs():
            for row in rows(costs.losses + 1, 4):
                for below in range(1, sum(row)):
                    yes = costs(answered_row(row, below, in_a_row=costs.in_a_row))
                    no = costs(silent_row(row, below))
                    wanted = branches(needs_in(row), below, *kind)
                    self.assertEqual((costs.prices.answer + yes, costs.prices.silence + no), wanted)


if __name__ == "__main__":
    unittest.main()
