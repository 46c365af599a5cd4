"""[20] and [21]: the courses of a plan, and playing it."""

import functools
import itertools
import random
import types
import unittest

from helper import ParcelCase
from plain import (
    KINDS,
    after_no,
    after_yes,
    make_log,
    needs_in,
    paid,
    plain_courses,
    row_from,
    row_of,
    rows,
    some_logs,
    some_plan,
    wide_log,
)
from widestparcels.costs import Prices
from widestparcels.courses import cheapest, count_courses, courses, dearest, play
from widestparcels.errors import BadPair, BadPlan, Impossible, TooMany
from widestparcels.log import Log
from widestparcels.plans import check_plan, told_plan

PAIRS_OF_PRICES = ((1, 1), (2, 1), (1, 3), (0, 1), (1, 0), (7, 5))
EVEN = Prices.even()


def plans_and_logs():
    """Logs of all kinds, each with a told plan and with plans by chance."""
    chance = random.Random(20)
    for log in some_logs():
        yield log, told_plan(log, EVEN)
        for _ in range(2):
            yield log, some_plan(chance, row_of(log), log.road.in_a_row)


def first_of(all_courses, cost, answer, silence):
    return next(course for course in all_courses if paid(course, answer, silence) == cost)


class AllCourses(ParcelCase):
    def test_against_a_plain_walk(self):
        for log, plan in plans_and_logs():
            wanted = plain_courses(log, plan)
            self.assert_same(list(courses(log, plan)), wanted)
            self.assert_same(count_courses(log, plan), len(wanted))

    def test_dearest_and_cheapest_against_a_plain_walk(self):
        for log, plan in plans_and_logs():
            all_courses = plain_courses(log, plan)
            for answer, silence in PAIRS_OF_PRICES:
                prices = Prices(answer, silence)
                costs = [paid(course, answer, silence) for course in all_courses]
                most, least = max(costs), min(costs)
                self.assert_same(dearest(log, prices, plan), (most, first_of(all_courses, most, answer, silence)))
                self.assert_same(cheapest(log, prices, plan), (least, first_of(all_courses, least, answer, silence)))
                self.assertEqual(most, check_plan(log, prices, plan))

    def test_all_courses_of_equal_cost(self):
        log = wide_log(4, 0, False)
        plan = {(4,): 2, (2,): 1}
        self.assertEqual(dearest(log, EVEN, plan), (2, [(3, True), (4, True)]))
        self.assertEqual(cheapest(log, EVEN, plan), (2, [(3, True), (4, True)]))
        self.assertEqual(cheapest(log, Prices(2, 1), plan), (2, [(3, False), (2, False)]))
        self.assertEqual(dearest(log, Prices(1, 2), plan), (4, [(3, False), (2, False)]))

    def test_answers_are_true_and_false(self):
        for course in courses(wide_log(3, 1, False), {row: 1 for row in rows(2, 3)}):
            for pair in course:
                self.assertIs(type(pair), tuple)
                self.assertIs(type(pair[1]), bool)

    def test_courses_lead_to_known_widths(self):
        for log, plan in plans_and_logs():
            for course in courses(log, plan):
                self.assertIsNotNone(Log(log.road, *log.pairs, *course).known())

    def test_known_widths(self):
        for log in (make_log((10,), 3, True), make_log((10, 20), 0, False, (20, False))):
            for plan in ({}, {(1,): 0, "x": 1}):
                self.assertEqual(list(courses(log, plan)), [[]])
                self.assert_same(count_courses(log, plan), 1)
                self.assert_same(dearest(log, Prices(2, 3), plan), (0, []))
                self.assert_same(cheapest(log, Prices(2, 3), plan), (0, []))

    def test_more_pairs_than_a_log_can_have(self):
        log = make_log((10, 20, 30), 3, False, *([(20, True)] * 99), (20, True))
        plan = told_plan(log, EVEN)
        found = list(courses(log, plan))
        self.assertEqual(found[0], [(30, True)])
        self.assertEqual(found[-1], [(30, False)] * 4)
        self.assertEqual(count_courses(log, plan), 5)
        self.assertEqual(dearest(log, EVEN, plan), (4, [(30, False)] * 3 + [(30, True)]))
        self.assertEqual(cheapest(log, Prices(9, 1), plan), (4, [(30, False)] * 4))


class OneAfterTheOther(ParcelCase):
    def test_a_generator(self):
        self.assertIsInstance(courses(wide_log(3, 0, False), {(3,): 1, (2,): 1}), types.GeneratorType)

    def test_changing_a_course_changes_no_later_one(self):
        for log, plan in plans_and_logs():
            wanted = plain_courses(log, plan)
            found = []
            for course in courses(log, plan):
                found.append(list(course))
                course.append((0, None))
                course[0] = None
            self.assertEqual(found, wanted)
            self.assertEqual(list(courses(log, plan)), wanted)

    def test_changing_the_dearest_and_the_cheapest_course(self):
        log = wide_log(3, 0, False)
        plan = {(3,): 1, (2,): 1}
        for function in (dearest, cheapest):
            first = function(log, EVEN, plan)
            function(log, EVEN, plan)[1].clear()
            self.assertEqual(function(log, EVEN, plan), first)

    def test_two_walks_do_not_disturb_each_other(self):
        log = wide_log(4, 1, True)
        plan = told_plan(log, EVEN)
        wanted = list(courses(log, plan))
        first, second = courses(log, plan), courses(log, plan)
        self.assertEqual([pair for pair in zip(first, second)], [(course, course) for course in wanted])

    def test_arguments_stay_as_they_were(self):
        log = wide_log(4, 1, False, (3, False))
        plan = {**told_plan(log, EVEN), "x": 1}
        before = list(plan.items())
        list(courses(log, plan))
        count_courses(log, plan)
        dearest(log, EVEN, plan)
        cheapest(log, EVEN, plan)
        play(log, plan, lambda probe: False)
        self.assertEqual(list(plan.items()), before)
        self.assertEqual(log.pairs, ((3, False),))


class ErrorsOfCourses(ParcelCase):
    def setUp(self):
        impossible = make_log((10, 20), 0, False, (20, False), (20, True))
        self.wrong = (
            (impossible, {}, Impossible, {}),
            (wide_log(3, 0, False), {}, BadPlan, {"state": (3,), "reason": "lacks"}),
            (wide_log(3, 0, False), {(3,): 1}, BadPlan, {"state": (2,), "reason": "lacks"}),
            (wide_log(3, 0, False), {(3,): 3, (2,): 1}, BadPlan, {"state": (3,), "reason": "below"}),
            (wide_log(3, 0, False), {(3,): 1, (2,): True}, BadPlan, {"state": (2,), "reason": "below"}),
        )

    def test_all_functions(self):
        for log, plan, kind, attributes in self.wrong:
            self.assert_told(kind, attributes, count_courses, log, plan)
            self.assert_told(kind, attributes, dearest, log, EVEN, plan)
            self.assert_told(kind, attributes, cheapest, log, EVEN, plan)
            self.assert_told(kind, attributes, play, log, plan, self.never)

    def test_courses_raises_when_the_first_one_is_asked_for(self):
        for log, plan, kind, attributes in self.wrong:
            found = courses(log, plan)
            self.assert_told(kind, attributes, next, found)

    def test_the_first_course_is_not_given_before_the_whole_plan_is_checked(self):
        # (2,) is reached by the silence alone.
        found = courses(wide_log(3, 0, False), {(3,): 2})
        self.assert_told(BadPlan, {"state": (2,), "reason": "lacks"}, next, found)

    def never(self, *args):
        self.fail("something was asked")


@functools.lru_cache(maxsize=None)
def plain_count(needs, losses, in_a_row, number_at):
    if len(needs) == 1:
        return 1
    below = number_at(row_from(needs, losses))
    return (
        plain_count(after_yes(needs, below, in_a_row), losses, in_a_row, number_at)
        + plain_count(after_no(needs, below, losses), losses, in_a_row, number_at)
    )


def one_below(row):
    return 1


def half_below(row):
    return sum(row) // 2


def one_not_below(row):
    return sum(row) - 1


class VeryManyCourses(ParcelCase):
    def test_count_and_costs(self):
        for losses, in_a_row in ((2, True), (3, False), (3, True)):
            for number_at in (one_below, half_below, one_not_below):
                log = wide_log(24, losses, in_a_row)
                plan = {row: number_at(row) for row in rows(losses + 1, 24) if sum(row) > 1}
                many = plain_count(needs_in(log.row()), losses, in_a_row, number_at)
                self.assertEqual(count_courses(log, plan), many)
                self.assertGreater(many, 60)
                for prices in (EVEN, Prices(1, 50), Prices(50, 1)):
                    cost, course = dearest(log, prices, plan)
                    self.assertEqual(cost, check_plan(log, prices, plan))
                    self.assertEqual(cost, paid(course, prices.answer, prices.silence))
                    less, short = cheapest(log, prices, plan)
                    self.assertEqual(less, paid(short, prices.answer, prices.silence))
                    self.assertLess(less, cost)

    def test_there_are_far_too_many_to_go_through(self):
        log = wide_log(24, 3, True)
        plan = {row: one_below(row) for row in rows(4, 24) if sum(row) > 1}
        self.assertEqual(count_courses(log, plan), 93824992236885)
        self.assertEqual(check_plan(log, EVEN, plan), 4 * 23)
        answered = [(probe, True) for probe in range(2, 25)]
        self.assertEqual(cheapest(log, Prices(0, 1), plan), (0, answered))
        first = list(itertools.islice(courses(log, plan), 2))
        self.assertEqual(first, [answered, answered[:-1] + [(24, False), (24, True)]])


class Asked:
    """Answers as told, and keeps what it was asked."""

    def __init__(self, *answers):
        self.answers = list(answers)
        self.probes = []

    def __call__(self, *args, **named):
        assert len(args) == 1 and not named
        self.probes.append(args[0])
        return self.answers[len(self.probes) - 1]


class Playing(ParcelCase):
    def test_all_courses_can_be_played(self):
        for log, plan in plans_and_logs():
            for course in plain_courses(log, plan):
                ask = Asked(*[answered for _, answered in course])
                found = play(log, plan, ask)
                self.assertIs(type(found), Log)
                self.assertEqual(found, Log(log.road, *log.pairs, *course))
                self.assertEqual(ask.probes, [probe for probe, _ in course])

    def test_known_widths_ask_nothing(self):
        log = make_log((10, 20), 0, False, (20, False))
        ask = Asked()
        self.assertEqual(play(log, {}, ask), log)
        self.assertEqual(ask.probes, [])

    def test_wrong_answers(self):
        plan = {(3,): 1, (2,): 1}
        for wrong in (1, 0, None, "yes", "", [], (True,), 1.0):
            ask = Asked(wrong)
            self.assert_told(BadPair, {"place": 0}, play, wide_log(3, 0, False), plan, ask)
            self.assertEqual(ask.probes, [2])
            ask = Asked(True, wrong)
            self.assert_told(BadPair, {"place": 1}, play, wide_log(3, 0, False), plan, ask)
            self.assertEqual(ask.probes, [2, 3])
            log = wide_log(3, 0, False, (2, True), (2, True))
            ask = Asked(wrong)
            self.assert_told(BadPair, {"place": 2}, play, log, plan, ask)
            self.assertEqual(ask.probes, [3])

    def test_logs_that_are_almost_full(self):
        plan = {row: sum(row) - 1 for row in rows(2, 3)}
        for many in (98, 99, 100):
            log = wide_log(3, 1, False, *([(2, True)] * many))
            self.assertEqual(log.row(), (2, 0))
            free = 100 - many
            ask = Asked(False, False)
            if free == 2:
                self.assertEqual(play(log, plan, ask).known(), 2)
            else:
                self.assert_told(TooMany, {"limit": 100}, play, log, plan, ask)
            self.assertEqual(ask.probes, [3] * free)
            self.assertEqual(len(log), many)

    def test_the_last_pair_may_be_the_hundredth(self):
        plan = {row: sum(row) - 1 for row in rows(2, 3)}
        log = wide_log(3, 1, False, *([(2, True)] * 99))
        found = play(log, plan, Asked(True))
        self.assertEqual((len(found), found.known()), (100, 3))
        self.assert_told(BadPair, {"place": 99}, play, log, plan, Asked(1))
        full = wide_log(3, 1, False, *([(2, True)] * 99), (3, True))
        self.assertEqual(play(full, {}, Asked()), full)

    def test_errors_come_before_anything_is_asked(self):
        full = wide_log(3, 1, False, *([(2, True)] * 100))
        ask = Asked()
        self.assert_told(BadPlan, {"state": (2, 0), "reason": "lacks"}, play, full, {}, ask)
        plan = {(2, 0): 1}
        self.assert_told(BadPlan, {"state": (1, 1), "reason": "lacks"}, play, full, plan, ask)
        impossible = make_log((10, 20), 0, False, (20, False), (20, True))
        self.assert_told(Impossible, {}, play, impossible, {}, ask)
        # A row that these answers would not come to is checked, too.
        self.assert_told(BadPlan, {"state": (2,), "reason": "lacks"}, play, wide_log(3, 0, False), {(3,): 2}, ask)
        self.assertEqual(ask.probes, [])

    def test_against_a_true_width(self):
        for losses, in_a_row in KINDS:
            log = wide_log(24, losses, in_a_row)
            plan = told_plan(log, EVEN)
            for width in range(1, 25):
                self.assertEqual(play(log, plan, lambda probe: probe <= width).known(), width)


if __name__ == "__main__":
    unittest.main()
