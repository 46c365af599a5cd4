"""[18] and [19]: plans, what they cost, and a plan of least cost."""

import functools
import random
import unittest

from helper import ParcelCase
from plain import (
    KINDS,
    after_no,
    after_yes,
    dearer,
    game,
    make_log,
    needs_in,
    no_row,
    paid,
    plain_courses,
    reached,
    row_of,
    rows,
    some_logs,
    some_plan,
    wide_log,
    yes_row,
)
from widestparcels.best import least_cost
from widestparcels.costs import Prices
from widestparcels.errors import BadPlan, Impossible
from widestparcels.plans import check_plan, told_plan

PAIRS_OF_PRICES = ((1, 1), (2, 1), (1, 3), (0, 1), (1, 0))
EVEN = Prices.even()


def impossible_logs():
    return (
        make_log((10, 20), 0, False, (20, False), (20, True)),
        make_log((10, 20, 30), 1, True, (20, False), (20, False), (20, True)),
    )


class RightPlans(ParcelCase):
    def test_against_all_courses(self):
        chance = random.Random(18)
        for log in some_logs():
            for _ in range(3):
                plan = some_plan(chance, row_of(log), log.road.in_a_row)
                all_courses = plain_courses(log, plan)
                for answer, silence in PAIRS_OF_PRICES:
                    wanted = max(paid(course, answer, silence) for course in all_courses)
                    self.assert_same(check_plan(log, Prices(answer, silence), plan), wanted)
                    self.assertGreaterEqual(wanted, least_cost(log, Prices(answer, silence)))

    def test_single_plans(self):
        log = wide_log(3, 0, False)
        self.assert_same(check_plan(log, Prices(2, 5), {(3,): 1, (2,): 1}), 7)
        self.assert_same(check_plan(log, Prices(2, 5), {(3,): 2, (2,): 1}), 10)
        self.assert_same(check_plan(wide_log(2, 3, False), Prices(1, 10), {
            (2, 0, 0, 0): 1, (1, 1, 0, 0): 1, (1, 0, 1, 0): 1, (1, 0, 0, 1): 1,
        }), 40)

    def test_the_plan_stays_as_it_was(self):
        plan = {(3,): 2, (2,): 1, (7,): None}
        check_plan(wide_log(3, 0, False), EVEN, plan)
        self.assertEqual(list(plan.items()), [((3,), 2), ((2,), 1), ((7,), None)])

    def test_keys_that_are_never_reached_do_not_matter(self):
        more = {(9,): 0, (3, 0): -1, (1,): 5, (0, 1): None, "x": "y", 7: (), None: True, (): 1, (2, 1): 9}
        log = wide_log(3, 0, False)
        self.assertEqual(check_plan(log, EVEN, {**more, (3,): 1, (2,): 1}), 2)
        self.assert_told(BadPlan, {"state": (2,), "reason": "lacks"}, check_plan, log, EVEN, {**more, (3,): 1})
        log = wide_log(3, 1, True)
        plan = told_plan(log, EVEN)
        missing = [row for row in rows(2, 3) if row not in plan]
        self.assertTrue(missing)
        for row in missing:
            self.assertEqual(check_plan(log, EVEN, {row: "x", **plan}), check_plan(log, EVEN, plan))

    def test_rows_of_sum_one_need_no_key(self):
        self.assertEqual(check_plan(wide_log(2, 0, False), EVEN, {(2,): 1}), 1)
        self.assertEqual(check_plan(wide_log(2, 0, False), EVEN, {(2,): 1, (1,): 0}), 1)

    def test_a_key_that_is_equal_is_enough(self):
        log = make_log((1, 2, 3), 1, False, (2, False))
        self.assertEqual(log.row(), (1, 2))
        plan = {row: 1 for row in rows(2, 3)}
        wanted = check_plan(log, EVEN, plan)
        del plan[1, 2], plan[1, 1]
        plan[True, 2] = 1
        plan[1.0, True] = 1
        self.assertEqual(check_plan(log, EVEN, plan), wanted)

    def test_known_widths(self):
        for log in (
            make_log((10,), 2, True),
            make_log((10, 20), 0, False, (20, False)),
            make_log((10, 20), 1, False, (20, True), (20, False)),
        ):
            for plan in ({}, {(1,): 9, (0, 1): None}, {"x": 1}, {log.row(): 1}):
                self.assert_same(check_plan(log, Prices(3, 4), plan), 0)
            self.assert_same(told_plan(log, Prices(3, 4)), {})

    def test_log_with_hundred_pairs(self):
        log = make_log((10, 20, 30), 1, False, *([(20, True)] * 99), (30, False))
        self.assertEqual(log.row(), (1, 1))
        self.assertEqual(check_plan(log, Prices(2, 3), {(1, 1): 1}), 3)


class WrongPlans(ParcelCase):
    def test_impossible_logs(self):
        for log in impossible_logs():
            for plan in ({}, {(1,): 1}, {(0, 0): None}):
                self.assert_told(Impossible, {}, check_plan, log, EVEN, plan)
            self.assert_told(Impossible, {}, told_plan, log, EVEN)

    def test_wrong_numbers(self):
        log = wide_log(4, 1, False)
        plan = told_plan(log, EVEN)
        for state in plan:
            for number in (0, sum(state), -1, sum(state) + 1, 10 ** 30, True, False, None, "1", 1.0, (1,), [1]):
                with self.subTest(state=state, number=number):
                    wanted = {"state": state, "reason": "below"}
                    self.assert_told(BadPlan, wanted, check_plan, log, EVEN, {**plan, state: number})

    def test_lacking_rows(self):
        for log in some_logs():
            plan = some_plan(random.Random(5), row_of(log), log.road.in_a_row)
            for state in plan:
                less = {row: plan[row] for row in plan if row != state}
                wanted = {"state": state, "reason": "lacks"}
                self.assert_told(BadPlan, wanted, check_plan, log, EVEN, less)

    def test_two_faults_at_once(self):
        chance = random.Random(2)
        for losses, in_a_row in KINDS:
            log = wide_log(7, losses, in_a_row)
            plan = some_plan(chance, log.row(), in_a_row)
            states = list(plan)[:14]
            for early, first in enumerate(states):
                for second in states[early + 1:]:
                    self.assert_first_of_both(log, plan, first, second)

    def assert_first_of_both(self, log, plan, first, second):
        # Both lack, both are wrong, or one of each. The order of the keys does not matter.
        backward = {row: plan[row] for row in reversed(list(plan))}
        for lacks_first in (True, False):
            for lacks_second in (True, False):
                wrong = dict(backward)
                for state, lacks in ((second, lacks_second), (first, lacks_first)):
                    if lacks:
                        del wrong[state]
                    else:
                        wrong[state] = 0
                reason = "lacks" if lacks_first else "below"
                self.assert_told(BadPlan, {"state": first, "reason": reason}, check_plan, log, EVEN, wrong)

    def test_rows_are_reached_by_rounds(self):
        # From (9,) come (5,) and (4,); only then comes (3,), from (5,).
        log = wide_log(9, 0, False)
        plan = {(9,): 4, (5,): 2, (4,): 2, (3,): 1, (2,): 1}
        self.assertEqual(check_plan(log, EVEN, plan), 4)
        for lacking, state in (
            (((4,), (3,)), (4,)),
            (((5,), (4,)), (5,)),
            (((3,), (2,)), (3,)),
            (((2,), (4,)), (4,)),
            (((9,), (2,)), (9,)),
        ):
            less = {row: plan[row] for row in plan if row not in lacking}
            self.assert_told(BadPlan, {"state": state, "reason": "lacks"}, check_plan, log, EVEN, less)

    def test_empty_plan(self):
        self.assert_told(BadPlan, {"state": (3,), "reason": "lacks"}, check_plan, wide_log(3, 0, False), EVEN, {})


class ToldPlans(ParcelCase):
    def test_against_the_game(self):
        for log in some_logs():
            losses, in_a_row = log.road.losses, log.road.in_a_row
            for answer, silence in PAIRS_OF_PRICES:
                prices = Prices(answer, silence)
                kind = (losses, in_a_row, answer, silence)
                number_at = functools.partial(least_of_the_best, kind)
                states = reached(row_of(log), in_a_row, number_at)
                wanted = {state: number_at(state) for state in states}
                plan = told_plan(log, prices)
                self.assert_same(list(plan.items()), list(wanted.items()))
                self.assertEqual(check_plan(log, prices, plan), least_cost(log, prices))

    def test_wider_roads(self):
        for losses, in_a_row in KINDS:
            log = wide_log(9, losses, in_a_row)
            plan = told_plan(log, Prices(2, 3))
            number_at = functools.partial(least_of_the_best, (losses, in_a_row, 2, 3))
            self.assertEqual(list(plan), reached(log.row(), in_a_row, number_at))
            self.assertEqual(list(plan.values()), [number_at(state) for state in plan])

    def test_the_widest_roads(self):
        for losses, in_a_row in KINDS:
            for answer, silence in ((1, 1), (1, 30), (30, 1), (1, 0), (0, 1)):
                log = wide_log(24, losses, in_a_row)
                prices = Prices(answer, silence)
                plan = told_plan(log, prices)
                self.assertEqual(check_plan(log, prices, plan), least_cost(log, prices))

    def test_any_plan_costs_at_least_the_least_cost(self):
        chance = random.Random(19)
        for losses, in_a_row in KINDS:
            log = wide_log(10, losses, in_a_row)
            for answer, silence in PAIRS_OF_PRICES:
                plan = some_plan(chance, log.row(), in_a_row)
                prices = Prices(answer, silence)
                self.assertGreaterEqual(check_plan(log, prices, plan), least_cost(log, prices))

    def test_the_plan_may_be_changed(self):
        log = wide_log(3, 0, False)
        plan = told_plan(log, EVEN)
        plan[3,] = 9
        plan[7,] = 1
        self.assertEqual(list(told_plan(log, EVEN).items()), [((3,), 1), ((2,), 1)])

    def test_log_with_hundred_pairs(self):
        log = make_log((10, 20, 30), 1, False, *([(20, True)] * 99), (30, False))
        self.assertEqual(told_plan(log, EVEN), {(1, 1): 1})


def least_of_the_best(kind, row):
    needs = needs_in(row)
    worst = [dearer(needs, below, *kind) for below in range(1, len(needs))]
    return worst.index(min(worst)) + 1


class PlainReckonings(unittest.TestCase):
    def test_rows_after_a_probe(self):
        # The other tests rest on these.
        self.assertEqual(after_yes((0, 0, 1), 1, False), (0, 1))
        self.assertEqual(after_yes((0, 0, 1), 1, True), (0, 0))
        self.assertEqual(after_no((0, 0, 1), 1, 1), (0, 1))
        self.assertEqual(yes_row((2, 1), 1, False), (1, 1))
        self.assertEqual(no_row((2, 1), 1), (1, 1))
        self.assertEqual(game((0, 0, 0), 1, False, 1, 1), 3)


if __name__ == "__main__":
    unittest.main()
