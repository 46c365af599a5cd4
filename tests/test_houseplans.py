"""[41]: plans for roads with houses."""

import random
import unittest

from helper import ParcelCase
from plain_houses import (
    all_house_logs,
    branches_at,
    house_log,
    reached_states,
    some_house_logs,
    some_house_plan,
    state_of,
    wide_house_log,
)
from widestparcels.errors import BadPlan
from widestparcels.houseplans import check_house_plan, told_house_plan
from widestparcels.houses import least_probes, told_probe

NO_NUMBERS = (0, True, False, None, -1, 10 ** 30, "1", 1.0, (1,), [1])


def most_sent(state, plan):
    """The greatest number of probes, by going through all that can be told."""
    if state[0] == 1:
        return 0
    return 1 + max(most_sent(branch, plan) for branch in branches_at(state, plan[state]))


def plans_and_logs():
    chance = random.Random(41)
    for log in some_house_logs():
        for _ in range(4):
            yield log, some_house_plan(chance, state_of(log))


class PlanCase(ParcelCase):
    def assert_bad(self, state, reason, log, plan):
        self.assert_told(BadPlan, {"state": state, "reason": reason}, check_house_plan, log, plan)


class RightPlans(PlanCase):
    def test_against_the_words(self):
        for log, plan in plans_and_logs():
            wanted = most_sent(state_of(log), plan)
            self.assert_same(check_house_plan(log, plan), wanted)
            self.assertLessEqual(least_probes(log), wanted)

    def test_single_plans(self):
        log = wide_house_log(3, 2)
        self.assert_same(check_house_plan(log, {(3, 2): 2, (2, 1): 1}), 2)
        self.assert_same(check_house_plan(log, {(3, 2): 1, (2, 2): 1}), 2)
        log = wide_house_log(4, 2)
        self.assert_same(check_house_plan(log, {(4, 2): 1, (3, 2): 1, (2, 2): 1}), 3)
        self.assert_same(check_house_plan(log, {(4, 2): 3, (2, 1): 1, (3, 1): 1}), 3)
        self.assert_same(check_house_plan(log, {(4, 2): 3, (2, 1): 1, (3, 1): 2}), 2)

    def test_left_of_one_leads_to_one_width_and_no_house(self):
        # A told width is the last one, so that no state with more widths and no house is reached.
        log = wide_house_log(4, 1)
        self.assert_same(check_house_plan(log, {(4, 1): 3}), 1)
        self.assert_same(check_house_plan(log, {(4, 1): 2, (2, 1): 1}), 2)
        self.assert_same(check_house_plan(log, {(4, 1): 1, (3, 1): 1, (2, 1): 1}), 3)

    def test_keys_that_are_never_reached_do_not_matter(self):
        log = wide_house_log(3, 2)
        more = {
            (9, 2): 1, (3, 1): None, (2, 2): True, (1, 2): 0, (1, 0): "x", (2, 0): 7, (3, 2, 1): 1, (3,): 2,
            "x": "y", 7: 7, None: None, ((3, 2),): 2,
        }
        plan = {(3, 2): 2, (2, 1): 1}
        self.assertEqual(check_house_plan(log, {**more, **plan}), 2)

    def test_known_widths(self):
        for log in (
            wide_house_log(1, 0), wide_house_log(1, 3), wide_house_log(5, 0),
            house_log((5, 7, 9), 1, (9, 7)), house_log((5, 7, 9), 2, (9, None)),
        ):
            for plan in ({}, {(1, 0): None}, {"x": 1, (1, 3): True}):
                self.assert_same(check_house_plan(log, plan), 0)
            self.assert_same(told_house_plan(log), {})

    def test_the_plan_stays_as_it_was(self):
        log = wide_house_log(3, 2)
        plan = {(9, 9): None, (2, 1): 1, (3, 2): 2}
        before = list(plan.items())
        check_house_plan(log, plan)
        self.assertEqual(list(plan.items()), before)


class WrongPlans(PlanCase):
    def test_empty_plan(self):
        for log in some_house_logs():
            if log.known() is None:
                self.assert_bad(state_of(log), "lacks", log, {})

    def test_each_lacking_pair(self):
        for log, plan in plans_and_logs():
            for state in plan:
                less = {other: plan[other] for other in plan if other != state}
                self.assert_bad(state, "lacks", log, less)

    def test_each_wrong_number(self):
        for log, plan in plans_and_logs():
            for state in plan:
                for below in (state[0], state[0] + 1, *NO_NUMBERS):
                    self.assert_bad(state, "below", log, {**plan, state: below})

    def test_two_faults_at_once(self):
        for log, plan in plans_and_logs():
            states = reached_states(state_of(log), plan.get)
            self.assertEqual(list(plan), states)
            backward = {state: plan[state] for state in reversed(states)}
            for early, first in enumerate(states[:9]):
                for second in states[early + 1:early + 9]:
                    # A wrong number above may hide a pair that is reached by it alone, but never an earlier one.
                    less = {state: backward[state] for state in backward if state not in (first, second)}
                    self.assert_bad(first, "lacks", log, less)
                    self.assert_bad(first, "lacks", log, {second: 0, **less})
                    self.assert_bad(first, "below", log, {**less, first: first[0]})
                    self.assert_bad(first, "below", log, {**less, second: None, first: True})

    def test_pairs_are_reached_by_rounds(self):
        # From (6, 3) come (3, 3), (1, 2), (2, 2), (3, 2); from (3, 3) comes (2, 3) after them.
        log = wide_house_log(6, 3)
        plan = {(6, 3): 3, (3, 3): 1, (2, 2): 1, (3, 2): 2, (2, 3): 1, (2, 1): 1}
        self.assertEqual(check_house_plan(log, plan), 3)
        for lacking in list(plan):
            for other in list(plan)[list(plan).index(lacking):]:
                less = {state: plan[state] for state in plan if state not in (lacking, other)}
                self.assert_bad(lacking, "lacks", log, less)

    def test_each_pair_is_reached_by_each_kept(self):
        # A told width may keep fewer than the number below.
        log = wide_house_log(5, 2)
        plan = {(5, 2): 4, (4, 1): 3, (3, 1): 2, (2, 1): 1}
        self.assertEqual(check_house_plan(log, plan), 2)
        for state in ((2, 1), (3, 1), (4, 1)):
            less = {other: plan[other] for other in plan if other != state}
            self.assert_bad(state, "lacks", log, less)

    def test_the_pair_of_a_log_with_pairs(self):
        log = house_log((5, 7, 9, 11, 13), 3, (13, 11), (7, None))
        self.assert_bad((3, 2), "lacks", log, {(5, 3): 1})
        self.assert_bad((3, 2), "below", log, {(3, 2): 3})


class ToldPlans(PlanCase):
    def test_the_pairs_in_their_order(self):
        for log in some_house_logs():
            # The number below of told_probe in each state, told by a log that has this state.
            def below_at(state):
                other = wide_house_log(*state)
                return told_probe(other) - 1

            wanted = {state: below_at(state) for state in reached_states(state_of(log), below_at)}
            found = told_house_plan(log)
            self.assert_same(list(found.items()), list(wanted.items()))

    def test_it_sends_exactly_the_least_number(self):
        for many in range(1, 25):
            for houses in range(9):
                log = wide_house_log(many, houses)
                plan = told_house_plan(log)
                self.assert_same(check_house_plan(log, plan), least_probes(log))
        for _, _, _, log in all_house_logs((1, 5, 7, 9, 10), 3):
            self.assert_same(check_house_plan(log, told_house_plan(log)), least_probes(log))

    def test_single_plans(self):
        self.assert_same(list(told_house_plan(wide_house_log(3, 2)).items()), [((3, 2), 2), ((2, 1), 1)])
        self.assert_same(
            list(told_house_plan(wide_house_log(5, 4)).items()),
            [((5, 4), 2), ((3, 4), 1), ((2, 3), 1), ((2, 4), 1)],
        )
        self.assert_same(told_house_plan(wide_house_log(24, 1)), {(24, 1): 23})

    def test_the_plan_may_be_changed(self):
        log = wide_house_log(5, 4)
        before = told_house_plan(log)
        told_house_plan(log).clear()
        self.assertEqual(told_house_plan(log), before)


if __name__ == "__main__":
    unittest.main()
