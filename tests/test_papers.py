"""[22] and [23]: certificates that nothing is cheaper."""

import copy
import random
import unittest

from helper import ParcelCase
from plain import (
    KINDS,
    game,
    in_order,
    make_log,
    needs_in,
    no_row,
    row_of,
    rows,
    some_logs,
    wide_log,
    yes_row,
)
from widestparcels.best import least_cost
from widestparcels.costs import Prices
from widestparcels.errors import BadNumber, BadPaper, Impossible
from widestparcels.papers import check_at_least, paper_at_least

PAIRS_OF_PRICES = ((1, 1), (2, 1), (1, 3), (0, 1), (1, 0), (7, 5))
EVEN = Prices.even()
EXAMPLE = [((3, 0), 3), ((2, 0), 2), ((2, 1), 2), ((1, 1), 1)]
NO_ROWS = (
    [3, 0], None, 3, "row", (), (3,), (0,), (3, 0, 0), (0, 0), (4, 0), (0, 4), (2, 2), (25, 0), (-1, 3), (2, -1),
    (True, 1), (1, None), (1.0, 1), ("1", 1), ((1,), 1), ([1], 1),
)
NO_NUMBERS = (-1, -(10 ** 30), True, False, None, "1", 1.0, (1,), [1])


def is_right_row(start, row):
    if not isinstance(row, tuple) or len(row) != len(start):
        return False
    if not all(type(number) is int and number >= 0 for number in row):
        return False
    return 1 <= sum(row) <= sum(start)


def is_right_number(number):
    return type(number) is int and number >= 0


def fault_of(log, prices, v, pairs):
    """The place and the reason that the document names, or None if the certificate is right."""
    start, in_a_row = row_of(log), log.road.in_a_row
    good = [pair for pair in pairs if is_right_row(start, pair[0]) and is_right_number(pair[1])]

    def stands(row, least):
        return any(other == row and number >= least for other, number in good)

    for place, (row, number) in enumerate(pairs):
        if not is_right_row(start, row):
            return place, "row"
        if not is_right_number(number):
            return place, "number"
        if number > 0 and sum(row) == 1:
            return place, "one"
        for below in range(1, sum(row)):
            if number > 0 and not (
                stands(yes_row(row, below, in_a_row), number - prices.answer)
                or stands(no_row(row, below), number - prices.silence)
                or number - prices.answer <= 0
                or number - prices.silence <= 0
            ):
                return place, "step"
    return None if stands(start, v) else (len(pairs), "start")


class PaperCase(ParcelCase):
    def assert_bad(self, place, reason, log, prices, v, pairs):
        with self.subTest(v=v, pairs=pairs):
            self.assert_told(BadPaper, {"place": place, "reason": reason}, check_at_least, log, prices, v, pairs)

    def assert_as_told(self, log, prices, v, pairs):
        """The call does what the plain reckoning says."""
        fault = fault_of(log, prices, v, pairs)
        if fault is None:
            self.assertIs(check_at_least(log, prices, v, pairs), True)
        else:
            self.assert_bad(*fault, log, prices, v, pairs)
        return fault


class RightPapers(PaperCase):
    def test_example(self):
        log = wide_log(3, 1, False)
        for v in range(4):
            self.assertIs(check_at_least(log, EVEN, v, EXAMPLE), True)
        self.assert_bad(4, "start", log, EVEN, 4, EXAMPLE)

    def test_lists_and_tuples_of_pairs(self):
        log = wide_log(3, 1, False)
        self.assertIs(check_at_least(log, EVEN, 3, tuple(EXAMPLE)), True)
        self.assertIs(check_at_least(log, EVEN, 3, EXAMPLE[::-1]), True)

    def test_a_row_may_stand_in_several_pairs(self):
        log = wide_log(3, 1, False)
        for more in (((3, 0), 0), ((3, 0), 3), ((2, 1), 1), ((2, 0), 0), ((1, 1), 1)):
            for place in range(5):
                pairs = EXAMPLE[:place] + [more] + EXAMPLE[place:]
                self.assertIs(check_at_least(log, EVEN, 3, pairs), True)

    def test_numbers_of_zero_need_no_step(self):
        log = wide_log(3, 1, False)
        self.assertIs(check_at_least(log, EVEN, 0, [((3, 0), 0)]), True)
        self.assertIs(check_at_least(log, EVEN, 0, [((0, 1), 0), ((3, 0), 0), ((1, 0), 0)]), True)

    def test_numbers_that_one_price_covers(self):
        log = wide_log(3, 1, False)
        self.assertIs(check_at_least(log, Prices(2, 5), 5, [((3, 0), 5)]), True)
        self.assert_bad(0, "step", log, Prices(2, 5), 6, [((3, 0), 6)])
        self.assertIs(check_at_least(log, Prices(5, 0), 5, [((3, 0), 5)]), True)
        self.assert_bad(0, "step", log, Prices(5, 0), 6, [((3, 0), 6)])

    def test_the_pairs_stay_as_they_were(self):
        log = wide_log(3, 1, False)
        for pairs in (list(EXAMPLE), EXAMPLE + [([1], 2)], EXAMPLE + [((1, 1), [1])]):
            before = copy.deepcopy(pairs)
            for v in (3, 4):
                try:
                    check_at_least(log, EVEN, v, pairs)
                except BadPaper:
                    pass
            self.assertEqual(pairs, before)

    def test_known_widths(self):
        log = make_log((10, 20), 1, False, (20, True), (20, False))
        self.assertEqual(log.row(), (0, 1))
        self.assertIs(check_at_least(log, EVEN, 0, [((0, 1), 0)]), True)
        self.assertIs(check_at_least(log, EVEN, 0, [((1, 0), 0), ((0, 1), 0)]), True)
        self.assert_bad(1, "start", log, EVEN, 0, [((1, 0), 0)])
        self.assert_bad(1, "start", log, EVEN, 1, [((0, 1), 0)])
        self.assert_bad(0, "one", log, EVEN, 1, [((0, 1), 1)])
        self.assert_bad(0, "row", log, EVEN, 0, [((1, 1), 0)])

    def test_the_limit_of_pairs_does_not_matter(self):
        log = make_log((10, 20, 30), 1, False, *([(20, True)] * 99), (30, False))
        self.assertEqual(log.row(), (1, 1))
        self.assertIs(check_at_least(log, Prices(3, 2), 3, [((1, 1), 3)]), True)


class BadPairs(PaperCase):
    def setUp(self):
        self.log = wide_log(3, 1, False)

    def test_row(self):
        for row in NO_ROWS:
            for number in (0, 1, -1, None):
                for place in (0, 2, 4):
                    pairs = EXAMPLE[:place] + [(row, number)] + EXAMPLE[place:]
                    self.assert_bad(place, "row", self.log, EVEN, 3, pairs)

    def test_rows_are_bounded_by_the_row_of_the_log(self):
        log = make_log((1, 2, 3, 4), 1, False, (2, True))
        self.assertEqual(log.row(), (3, 0))
        self.assert_bad(0, "row", log, EVEN, 0, [((4, 0), 0), ((3, 0), 0)])
        self.assertIs(check_at_least(log, EVEN, 0, [((0, 3), 0), ((3, 0), 0)]), True)
        self.assert_bad(0, "row", wide_log(24, 1, False), EVEN, 0, [((24, 1), 0)])
        self.assertIs(check_at_least(wide_log(24, 1, False), EVEN, 0, [((24, 0), 0)]), True)

    def test_number(self):
        for number in NO_NUMBERS:
            for row in ((3, 0), (1, 1), (0, 1)):
                for place in (0, 2, 4):
                    pairs = EXAMPLE[:place] + [(row, number)] + EXAMPLE[place:]
                    self.assert_bad(place, "number", self.log, EVEN, 3, pairs)

    def test_one(self):
        for row in ((1, 0), (0, 1)):
            for number in (1, 2, 100, 10 ** 30):
                for place in (0, 2, 4):
                    pairs = EXAMPLE[:place] + [(row, number)] + EXAMPLE[place:]
                    self.assert_bad(place, "one", self.log, EVEN, 3, pairs)

    def test_step(self):
        for place, (row, number) in enumerate(EXAMPLE):
            more = EXAMPLE[:place] + [(row, number + 1)] + EXAMPLE[place + 1:]
            self.assert_bad(place, "step", self.log, EVEN, 3, more)
            less = EXAMPLE[:place] + EXAMPLE[place + 1:]
            fault = self.assert_as_told(self.log, EVEN, 3, less)
            self.assertIn(fault, ((0, "step"), (1, "step"), (3, "start")))

    def test_one_number_below_is_not_covered(self):
        # For (3, 0) at 3 each number below needs a branch: without (2, 1), which comes at 2 below by a silence,
        # the answer (1, 0) is not enough.
        self.assert_bad(0, "step", self.log, EVEN, 3, [((3, 0), 3), ((2, 0), 2), ((1, 1), 1)])
        # Without (2, 0) the silence (1, 2) is not stated, so 1 below is not covered.
        self.assert_bad(0, "step", self.log, EVEN, 3, [((3, 0), 3), ((2, 1), 2), ((1, 1), 1)])

    def test_start(self):
        self.assert_bad(0, "start", self.log, EVEN, 0, [])
        self.assert_bad(0, "start", self.log, EVEN, 0, ())
        self.assert_bad(0, "start", self.log, EVEN, 3, [])
        self.assert_bad(3, "start", self.log, EVEN, 0, EXAMPLE[1:])
        self.assert_bad(4, "start", self.log, EVEN, 10 ** 30, EXAMPLE)
        self.assert_bad(1, "start", self.log, EVEN, 1, [((3, 0), 0)])

    def test_several_reasons_at_once(self):
        # Within a pair the reasons have an order.
        self.assert_bad(0, "row", self.log, EVEN, 9, [((4, 0), None)])
        self.assert_bad(0, "number", self.log, EVEN, 9, [((1, 0), True)])
        self.assert_bad(0, "one", self.log, EVEN, 9, [((0, 1), 9)])
        self.assert_bad(0, "step", self.log, EVEN, 9, [((3, 0), 9)])
        # Of several pairs the first bad one is told, of whatever kind it is.
        wrong = {"row": ((9, 9), 1), "number": ((2, 0), -1), "one": ((1, 0), 1), "step": ((3, 0), 9)}
        for first, pair in wrong.items():
            for second, other in wrong.items():
                self.assert_bad(0, first, self.log, EVEN, 9, [pair, other])
                self.assert_bad(1, first, self.log, EVEN, 9, [((2, 0), 0), pair, other])

    def test_bad_pairs_that_do_not_count_for_a_step(self):
        # Each of these would be equal to what is needed, but has a bad row or a bad number.
        pairs = [((3, 0), 2), ((2, 0), True), ((2, 1), True)]
        self.assert_bad(0, "step", self.log, EVEN, 2, pairs)
        self.assert_bad(0, "step", self.log, EVEN, 2, [((3, 0), 2), ((2, 0), 1.0), ((2, 1), "1")])
        self.assert_bad(0, "step", self.log, EVEN, 2, [((3, 0), 2), ([2, 0], 1), ((2, True), 1)])

    def test_bad_pairs_that_count_for_a_step(self):
        # A pair whose own step fails, or a number above 0 for a row of sum 1, still counts.
        self.assert_bad(1, "step", self.log, EVEN, 2, [((3, 0), 2), ((2, 0), 9), ((2, 1), 9)])
        self.assert_bad(1, "one", self.log, EVEN, 2, [((2, 0), 2), ((1, 0), 1), ((3, 0), 9)])
        self.assert_bad(1, "step", self.log, EVEN, 2, [((3, 0), 2), ((2, 0), 9), ((2, 0), 1), ((2, 1), 9)])

    def test_by_chance(self):
        chance = random.Random(22)
        reasons = dict.fromkeys(("row", "number", "one", "step", "start", None), 0)
        for log in some_logs():
            start = row_of(log)
            table = [row for row in rows(len(start), sum(start) + 1)]
            for answer, silence in PAIRS_OF_PRICES:
                prices = Prices(answer, silence)
                right = paper_at_least(log, prices)
                for _ in range(6):
                    pairs = [pair for pair in right if chance.random() < 0.9]
                    if chance.random() < 0.5:
                        pairs += [(chance.choice(table), chance.randint(-1, 9)) for _ in range(3)]
                    if chance.random() < 0.3:
                        chance.shuffle(pairs)
                    fault = self.assert_as_told(log, prices, chance.randint(0, 5), pairs)
                    reasons[fault and fault[1]] += 1
        self.assertGreater(min(reasons.values()), 5, reasons)


class Errors(PaperCase):
    def test_impossible_logs_are_told_first(self):
        for log in (
            make_log((10, 20), 0, False, (20, False), (20, True)),
            make_log((10, 20, 30), 1, True, (20, False), (20, False), (20, True)),
        ):
            for v in (0, 1, -1, True, None):
                for pairs in ([], EXAMPLE, [((0, 0), 0)]):
                    self.assert_told(Impossible, {}, check_at_least, log, EVEN, v, pairs)
            self.assert_told(Impossible, {}, paper_at_least, log, EVEN)

    def test_wrong_v_is_told_before_the_pairs(self):
        log = wide_log(3, 1, False)
        for v in (-1, -(10 ** 30), True, False, None, "1", 1.0, (1,), [1]):
            for pairs in ([], EXAMPLE, [((0, 0), 0)], [((3, 0), None)]):
                self.assert_told(BadNumber, {"what": "cost", "value": v}, check_at_least, log, EVEN, v, pairs)


class OwnPapers(PaperCase):
    def test_for_the_least_cost_and_smaller_numbers(self):
        for log in some_logs():
            for answer, silence in PAIRS_OF_PRICES:
                prices = Prices(answer, silence)
                least = least_cost(log, prices)
                pairs = paper_at_least(log, prices)
                for v in range(least + 1):
                    self.assertIs(check_at_least(log, prices, v, pairs), True)
                self.assert_bad(len(pairs), "start", log, prices, least + 1, pairs)
                self.assertIsNone(fault_of(log, prices, least, pairs))

    def test_the_pairs(self):
        for log in some_logs():
            start, in_a_row = row_of(log), log.road.in_a_row
            wanted = sorted(coming(start, in_a_row))
            for answer, silence in PAIRS_OF_PRICES:
                pairs = paper_at_least(log, Prices(answer, silence))
                self.assertIs(type(pairs), list)
                self.assertEqual(pairs[0][0], start)
                self.assertEqual(sorted(row for row, _ in pairs), wanted)
                for row, cost in pairs:
                    self.assert_same(cost, game(needs_in(row), log.road.losses, in_a_row, answer, silence))

    def test_known_widths(self):
        self.assert_same(paper_at_least(make_log((10,), 2, True), EVEN), [((1, 0, 0), 0)])
        self.assert_same(paper_at_least(make_log((1, 2), 1, False, (2, False), (2, True)), EVEN), [((0, 1), 0)])

    def test_the_list_may_be_changed(self):
        log = wide_log(3, 1, False)
        before = paper_at_least(log, EVEN)
        paper_at_least(log, EVEN).clear()
        self.assertEqual(paper_at_least(log, EVEN), before)

    def test_the_widest_roads(self):
        for in_a_row in (False, True):
            log = wide_log(24, 3, in_a_row)
            prices = Prices(3, 2)
            pairs = paper_at_least(log, prices)
            least = least_cost(log, prices)
            self.assertEqual(pairs[0], ((24, 0, 0, 0), least))
            self.assertEqual(len(dict(pairs)), len(pairs))
            self.assertGreater(len(pairs), 17000)
            self.assertIs(check_at_least(log, prices, least, pairs), True)

    def test_no_certificate_is_accepted_for_more(self):
        # Each row gets as much as some certificate could state for it, and more.
        for losses, in_a_row in KINDS:
            log = wide_log(4, losses, in_a_row)
            least = least_cost(log, EVEN)
            for more in (1, 2, 9):
                pairs = [(row, cost + more) for row, cost in paper_at_least(log, EVEN) if sum(row) > 1]
                with self.assertRaises(BadPaper):
                    check_at_least(log, EVEN, least + 1, pairs)


def coming(start, in_a_row):
    """All rows that come from the first one by any numbers below."""

    def branches_of(row):
        numbers = range(1, sum(row))
        return [yes_row(row, below, in_a_row) for below in numbers] + [no_row(row, below) for below in numbers]

    return in_order(start, branches_of)


if __name__ == "__main__":
    unittest.main()
