"""[39] and [40]: foes, what they make a plan pay, and a plan and a foe that play."""

import random
import unittest

from helper import ParcelCase
from plain import (
    KINDS,
    branches,
    in_order,
    make_log,
    needs_in,
    no_row,
    paid,
    plain_courses,
    possible,
    row_of,
    rows,
    some_logs,
    some_plan,
    wide_log,
    yes_row,
)
from widestparcels.best import least_cost
from widestparcels.costs import Prices
from widestparcels.errors import BadFoe, BadPlan, Impossible
from widestparcels.foe import check_foe, play_foe, told_foe
from widestparcels.plans import check_plan, told_plan

PAIRS_OF_PRICES = ((1, 1), (2, 1), (1, 3), (0, 1), (1, 0), (7, 5))
EVEN = Prices.even()


def met(start, in_a_row, answer_at):
    """The pairs that are met if answer_at tells the answers, in their order."""

    def branches_of(row):
        return [branch_of(row, below, answer_at(row, below), in_a_row) for below in range(1, sum(row))]

    return [(row, below) for row in in_order(start, branches_of) for below in range(1, sum(row))]


def branch_of(row, below, answered, in_a_row):
    return yes_row(row, below, in_a_row) if answered else no_row(row, below)


def some_foe(chance, start, in_a_row):
    """A foe with answers by chance, which has just the pairs that it meets, in their order."""
    answers = {}

    def answer_at(row, below):
        if (row, below) not in answers:
            answers[row, below] = chance.random() < 0.5
        return answers[row, below]

    return {pair: answer_at(*pair) for pair in met(start, in_a_row, answer_at)}


def least_paid(row, in_a_row, foe, answer, silence):
    """The least cost of a plan, by trying all numbers below again and again."""
    if sum(row) == 1:
        return 0
    costs = []
    for below in range(1, sum(row)):
        answered = foe[row, below]
        price = answer if answered else silence
        costs.append(price + least_paid(branch_of(row, below, answered, in_a_row), in_a_row, foe, answer, silence))
    return min(costs)


def foes_and_logs():
    chance = random.Random(39)
    for log in some_logs():
        for _ in range(3):
            yield log, some_foe(chance, row_of(log), log.road.in_a_row)


class RightFoes(ParcelCase):
    def test_against_a_plain_reckoning(self):
        for log, foe in foes_and_logs():
            for answer, silence in PAIRS_OF_PRICES:
                prices = Prices(answer, silence)
                wanted = least_paid(row_of(log), log.road.in_a_row, foe, answer, silence)
                self.assert_same(check_foe(log, prices, foe), wanted)
                self.assertGreaterEqual(least_cost(log, prices), wanted)

    def test_single_foes(self):
        log = wide_log(3, 0, False)
        foe = {((3,), 1): True, ((3,), 2): False, ((2,), 1): True}
        self.assert_same(check_foe(log, Prices(2, 5), foe), 4)
        foe[(2,), 1] = False
        self.assert_same(check_foe(log, Prices(2, 5), foe), 7)
        foe[(3,), 2] = True
        self.assert_same(check_foe(log, Prices(2, 5), foe), 2)

    def test_keys_that_are_never_met_do_not_matter(self):
        log = wide_log(3, 0, False)
        more = {((3,), 3): 1, ((3,), 0): None, ((9,), 1): 0, "x": "y", (3,): 1, ((1,), 1): "z", 7: 7, ((3, 0), 1): 2}
        foe = {((3,), 1): True, ((3,), 2): False, ((2,), 1): True}
        self.assertEqual(check_foe(log, EVEN, {**more, **foe}), 2)
        # Without the pairs that lead to (2,) its pair is never met.
        foe = {((3,), 1): False, ((3,), 2): True}
        self.assertEqual(check_foe(log, EVEN, foe), 1)
        self.assertEqual(check_foe(log, EVEN, {**foe, ((2,), 1): None}), 1)

    def test_the_foe_stays_as_it_was(self):
        log = wide_log(3, 0, False)
        foe = {((3,), 2): False, ((3,), 1): True, "x": 1, ((2,), 1): True}
        before = list(foe.items())
        check_foe(log, EVEN, foe)
        play_foe(log, EVEN, {(3,): 1, (2,): 1}, foe)
        self.assertEqual(list(foe.items()), before)

    def test_known_widths(self):
        for log in (make_log((10,), 2, True), make_log((10, 20), 0, False, (20, False))):
            for foe in ({}, {((1,), 1): None}, {"x": 1}):
                self.assert_same(check_foe(log, Prices(3, 4), foe), 0)
                self.assert_same(play_foe(log, Prices(3, 4), {}, foe), (0, []))
            self.assert_same(told_foe(log, Prices(3, 4)), {})

    def test_the_limit_of_pairs_does_not_matter(self):
        log = make_log((10, 20, 30), 1, False, *([(20, True)] * 100))
        self.assertEqual(log.row(), (2, 0))
        foe = {((2, 0), 1): False, ((1, 1), 1): True}
        self.assertEqual(check_foe(log, Prices(3, 2), foe), 5)
        plan = {(2, 0): 1, (1, 1): 1}
        self.assertEqual(play_foe(log, Prices(3, 2), plan, foe), (5, [(30, False), (30, True)]))
        self.assertEqual(told_foe(log, Prices(3, 2)), foe)

    def test_foes_that_meet_very_many_pairs(self):
        foe = {(row, below): below % 2 == 0 for row in rows(4, 24) for below in range(1, sum(row))}
        for in_a_row in (False, True):
            log = wide_log(24, 3, in_a_row)
            for prices in (EVEN, Prices(2, 7)):
                found = check_foe(log, prices, foe)
                self.assertLessEqual(found, least_cost(log, prices))
                self.assertGreater(found, 0)


class WrongFoes(ParcelCase):
    def assert_bad(self, state, number, reason, log, foe):
        wanted = {"state": state, "number": number, "reason": reason}
        self.assert_told(BadFoe, wanted, check_foe, log, EVEN, foe)

    def test_impossible_logs(self):
        for log in (
            make_log((10, 20), 0, False, (20, False), (20, True)),
            make_log((10, 20, 30), 1, True, (20, False), (20, False), (20, True)),
        ):
            for foe in ({}, {((0,), 1): None}):
                self.assert_told(Impossible, {}, check_foe, log, EVEN, foe)
                self.assert_told(Impossible, {}, play_foe, log, EVEN, {}, foe)
            self.assert_told(Impossible, {}, told_foe, log, EVEN)

    def test_empty_foe(self):
        self.assert_bad((3, 0), 1, "lacks", wide_log(3, 1, False), {})

    def test_each_lacking_pair(self):
        for log, foe in foes_and_logs():
            for row, below in foe:
                less = {pair: foe[pair] for pair in foe if pair != (row, below)}
                self.assert_bad(row, below, "lacks", log, less)

    def test_each_wrong_answer(self):
        for log, foe in list(foes_and_logs())[::5]:
            for row, below in foe:
                for answered in (1, 0, None, "yes", "", [], (True,), 1.0):
                    self.assert_bad(row, below, "answer", log, {**foe, (row, below): answered})

    def test_two_faults_at_once(self):
        chance = random.Random(40)
        for losses, in_a_row in KINDS:
            log = wide_log(6, losses, in_a_row)
            foe = some_foe(chance, log.row(), in_a_row)
            backward = {pair: foe[pair] for pair in reversed(list(foe))}
            pairs = list(foe)[:20]
            for early, first in enumerate(pairs):
                for second in pairs[early + 1:]:
                    less = {pair: backward[pair] for pair in backward if pair not in (first, second)}
                    self.assert_bad(*first, "lacks", log, less)
                    self.assert_bad(*first, "lacks", log, {second: 0, **less})
                    self.assert_bad(*first, "answer", log, {**less, first: None})
                    self.assert_bad(*first, "answer", log, {**less, second: 1, first: 0})

    def test_rows_are_met_by_rounds(self):
        # From (5,) come (4,), (2,), (2,) and (1,); from (4,) comes (3,), after (2,).
        log = wide_log(5, 0, False)
        foe = {
            ((5,), 1): True, ((5,), 2): False, ((5,), 3): True, ((5,), 4): True,
            ((4,), 1): True, ((4,), 2): True, ((4,), 3): False,
            ((2,), 1): True,
            ((3,), 1): True, ((3,), 2): False,
        }
        self.assertEqual(check_foe(log, EVEN, foe), 1)
        self.assertEqual(met((5,), False, lambda row, below: foe[row, below]), list(foe))
        for lacking, first in (
            ([((3,), 1), ((2,), 1)], ((2,), 1)),
            ([((2,), 1), ((4,), 3)], ((4,), 3)),
            ([((4,), 1), ((5,), 4)], ((5,), 4)),
            ([((3,), 2), ((3,), 1)], ((3,), 1)),
        ):
            less = {pair: foe[pair] for pair in foe if pair not in lacking}
            self.assert_bad(*first, "lacks", log, less)


class ToldFoes(ParcelCase):
    def test_against_the_game(self):
        for log in some_logs():
            losses, in_a_row = log.road.losses, log.road.in_a_row
            for answer, silence in PAIRS_OF_PRICES:
                kind = (losses, in_a_row, answer, silence)

                def answer_at(row, below):
                    yes, no = branches(needs_in(row), below, *kind)
                    return yes >= no

                foe = told_foe(log, Prices(answer, silence))
                wanted = {pair: answer_at(*pair) for pair in met(row_of(log), in_a_row, answer_at)}
                self.assert_same(list(foe.items()), list(wanted.items()))
                self.assertTrue(all(answered is True or answered is False for answered in foe.values()))

    def test_it_makes_any_plan_pay_the_least_cost(self):
        for log in some_logs():
            for answer, silence in PAIRS_OF_PRICES:
                prices = Prices(answer, silence)
                self.assert_same(check_foe(log, prices, told_foe(log, prices)), least_cost(log, prices))

    def test_the_widest_roads(self):
        for losses, in_a_row in ((0, True), (1, False), (2, True), (3, False), (3, True)):
            log = wide_log(24, losses, in_a_row)
            prices = Prices(3, 2)
            foe = told_foe(log, prices)
            self.assertEqual(list(foe)[:23], [((24,) + (0,) * losses, below) for below in range(1, 24)])
            self.assertEqual(check_foe(log, prices, foe), least_cost(log, prices))
            cost, _ = play_foe(log, prices, told_plan(log, prices), foe)
            self.assertEqual(cost, least_cost(log, prices))

    def test_the_foe_may_be_changed(self):
        log = wide_log(3, 0, False)
        before = told_foe(log, EVEN)
        told_foe(log, EVEN).clear()
        self.assertEqual(told_foe(log, EVEN), before)


class Playing(ParcelCase):
    def test_against_all_courses(self):
        chance = random.Random(41)
        for log, foe in foes_and_logs():
            plan = some_plan(chance, row_of(log), log.road.in_a_row)
            wanted = [course for course in plain_courses(log, plan) if self.is_answered(log, plan, foe, course)]
            self.assertEqual(len(wanted), 1)
            for answer, silence in PAIRS_OF_PRICES:
                prices = Prices(answer, silence)
                cost = paid(wanted[0], answer, silence)
                self.assert_same(play_foe(log, prices, plan, foe), (cost, wanted[0]))
                self.assertLessEqual(check_foe(log, prices, foe), cost)
                self.assertLessEqual(cost, check_plan(log, prices, plan))

    def is_answered(self, log, plan, foe, course):
        """Whether the foe answers so all along the course."""
        for probe, answered in course:
            row = row_of(log)
            if possible(log)[plan[row]] != probe or foe[row, plan[row]] is not answered:
                return False
            log = log.told(probe, answered)
        return True

    def test_told_plan_and_told_foe(self):
        for log in some_logs():
            for answer, silence in PAIRS_OF_PRICES:
                prices = Prices(answer, silence)
                cost, course = play_foe(log, prices, told_plan(log, prices), told_foe(log, prices))
                self.assert_same(cost, least_cost(log, prices))
                self.assertEqual(paid(course, answer, silence), cost)
                self.assertIs(type(course), list)

    def test_one_side_is_told(self):
        chance = random.Random(42)
        for log, foe in foes_and_logs():
            plan = some_plan(chance, row_of(log), log.road.in_a_row)
            for answer, silence in PAIRS_OF_PRICES:
                prices = Prices(answer, silence)
                least = least_cost(log, prices)
                self.assertLessEqual(play_foe(log, prices, told_plan(log, prices), foe)[0], least)
                self.assertGreaterEqual(play_foe(log, prices, plan, told_foe(log, prices))[0], least)

    def test_errors_of_the_plan_come_first(self):
        log = wide_log(3, 0, False)
        plan = {(3,): 1, (2,): 1}
        lacks = {"state": (2,), "reason": "lacks"}
        for foe in ({}, {((3,), 1): 1}, {((3,), 1): True, ((3,), 2): True, ((2,), 1): False}):
            self.assert_told(BadPlan, lacks, play_foe, log, EVEN, {(3,): 1}, foe)
        wanted = {"state": (3,), "number": 1, "reason": "lacks"}
        self.assert_told(BadFoe, wanted, play_foe, log, EVEN, plan, {})
        wanted = {"state": (3,), "number": 1, "reason": "answer"}
        self.assert_told(BadFoe, wanted, play_foe, log, EVEN, plan, {((3,), 1): 1})

    def test_errors_beside_the_way_that_is_played(self):
        log = wide_log(3, 0, False)
        # The foe would never be asked about 2 below, nor the plan about (2,) after a silence.
        foe = {((3,), 1): False}
        wanted = {"state": (3,), "number": 2, "reason": "lacks"}
        self.assert_told(BadFoe, wanted, play_foe, log, EVEN, {(3,): 1, (2,): 1}, foe)
        wanted = {"state": (2,), "reason": "lacks"}
        self.assert_told(BadPlan, wanted, play_foe, log, EVEN, {(3,): 1}, {**foe, ((3,), 2): True})

    def test_the_course_may_be_changed(self):
        log = wide_log(3, 0, False)
        plan, foe = told_plan(log, EVEN), told_foe(log, EVEN)
        before = play_foe(log, EVEN, plan, foe)
        play_foe(log, EVEN, plan, foe)[1].clear()
        self.assertEqual(play_foe(log, EVEN, plan, foe), before)


if __name__ == "__main__":
    unittest.main()
