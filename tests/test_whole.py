"""[1] and [2] over the whole program: what is passed and what is returned, and which objects change."""

import copy
import unittest

from helper import ParcelCase, is_same
from widestparcels.apart import most_apart, to_strike
from widestparcels.back import fillings, possible_widths
from widestparcels.best import best_probes, extras, least_cost
from widestparcels.console import console
from widestparcels.costs import Costs, Prices
from widestparcels.courses import cheapest, count_courses, courses, dearest, play
from widestparcels.errors import ParcelError
from widestparcels.foe import check_foe, play_foe, told_foe
from widestparcels.houseplans import check_house_paper, check_house_plan, house_paper, told_house_plan
from widestparcels.houses import HouseLog, least_probes
from widestparcels.live import Search
from widestparcels.log import Log
from widestparcels.papers import check_at_least, paper_at_least
from widestparcels.plans import check_plan, told_plan
from widestparcels.road import Road
from widestparcels.stand import find, through, true_width
from widestparcels.texts import read_log, read_plan, write_log, write_plan
from widestparcels.widths import Widths

WIDTHS = Widths(10, 20, 30, 40)
ROAD = Road(WIDTHS, 1)
LOG = Log(ROAD, (40, False), (20, True))
PRICES = Prices(3, 2)
HOUSELOG = HouseLog(WIDTHS, 3, (40, 30))

# Each call with a list among its arguments: the function, and the arguments, with the list as a list.
WITH_LISTS = {
    "check_at_least": (check_at_least, [LOG, PRICES, 1, paper_at_least(LOG, PRICES)]),
    "check_house_paper": (check_house_paper, [HOUSELOG, 1, house_paper(HOUSELOG)]),
    "through": (through, [WIDTHS, [30, 10, 20], 40]),
    "true_width": (true_width, [WIDTHS, [30, 20, 30]]),
    "find": (find, [WIDTHS, 4, [30, 20, 30]]),
    "fillings": (fillings, [ROAD, [(40, False), (20, None), (30, None)]]),
    "possible_widths": (possible_widths, [ROAD, [(40, False), (20, None), (30, None)]]),
    "console": (console, [ROAD, PRICES, ["best", "tell 20 yes", "x", "table"]]),
}
WRONG_LISTS = {
    "check_at_least": (check_at_least, [LOG, PRICES, 1, [((3, 0), 0), ([1], None)]]),
    "check_house_paper": (check_house_paper, [HOUSELOG, 1, [((3, 2), 0), ([1], None)]]),
    "through": (through, [WIDTHS, [30, 10, 40], 40]),
    "true_width": (true_width, [WIDTHS, [30, 40, 30]]),
    "find": (find, [WIDTHS, 4, [30, 40, 30]]),
    "fillings": (fillings, [ROAD, [(40, False), (20, None), (10, None)]]),
    "possible_widths": (possible_widths, [ROAD, [(40, False), (20, None), (10, None)]]),
}
PLAN = told_plan(LOG, PRICES)
FOE = told_foe(LOG, PRICES)
HOUSE_PLAN = told_house_plan(HOUSELOG)


def answer(probe):
    return probe <= 20


# Each call with dictionaries among its arguments.
WITH_DICTIONARIES = {
    "check_plan": (check_plan, [LOG, PRICES, PLAN]),
    "count_courses": (count_courses, [LOG, PLAN]),
    "courses": (lambda log, plan: list(courses(log, plan)), [LOG, PLAN]),
    "dearest": (dearest, [LOG, PRICES, PLAN]),
    "cheapest": (cheapest, [LOG, PRICES, PLAN]),
    "play": (lambda log, plan: play(log, plan, answer), [LOG, PLAN]),
    "check_foe": (check_foe, [LOG, PRICES, FOE]),
    "play_foe": (play_foe, [LOG, PRICES, PLAN, FOE]),
    "check_house_plan": (check_house_plan, [HOUSELOG, HOUSE_PLAN]),
    "write_plan": (write_plan, [PLAN]),
}
# Each call that gives a list or a dictionary, or a tuple with one.
GIVING = {
    "probes": ROAD.probes,
    "needs": LOG.needs,
    "can_be": LOG.can_be,
    "useful": LOG.useful,
    "best": lambda: Costs(1, PRICES).best((3, 1)),
    "best of the same costs": lambda costs=Costs(1, PRICES): costs.best((3, 1)),
    "best_probes": lambda: best_probes(LOG, PRICES),
    "extras": lambda: extras(LOG, PRICES),
    "told_plan": lambda: told_plan(LOG, PRICES),
    "courses": lambda: list(courses(LOG, PLAN)),
    "one course": lambda: next(courses(LOG, PLAN)),
    "dearest": lambda: dearest(LOG, PRICES, PLAN)[1],
    "cheapest": lambda: cheapest(LOG, PRICES, PLAN)[1],
    "paper_at_least": lambda: paper_at_least(LOG, PRICES),
    "told_foe": lambda: told_foe(LOG, PRICES),
    "play_foe": lambda: play_foe(LOG, PRICES, PLAN, FOE)[1],
    "can_be of houses": HOUSELOG.can_be,
    "useful of houses": HOUSELOG.useful,
    "told_house_plan": lambda: told_house_plan(HOUSELOG),
    "house_paper": lambda: house_paper(HOUSELOG),
    "fillings": lambda: fillings(ROAD, [(40, None)]),
    "possible_widths": lambda: possible_widths(ROAD, [(40, None)]),
    "advice": Search(ROAD, PRICES).advice,
    "read_plan": lambda: read_plan("3,0 1\n"),
    "console": lambda: console(ROAD, PRICES, ["best", "x"]),
}


class Arguments(ParcelCase):
    def test_no_function_modifies_what_it_gets(self):
        for name, (call, arguments) in [*WITH_LISTS.items(), *WITH_DICTIONARIES.items()]:
            with self.subTest(name):
                plain = [argument for argument in arguments if isinstance(argument, (list, dict))]
                before = copy.deepcopy(plain)
                orders = [list(argument) for argument in plain]
                call(*arguments)
                self.assertEqual(plain, before)
                self.assertEqual([list(argument) for argument in plain], orders)

    def test_calls_that_raise_an_error_change_nothing(self):
        for name, (call, arguments) in WRONG_LISTS.items():
            with self.subTest(name):
                before = copy.deepcopy(arguments[-2:])
                with self.assertRaises(ParcelError):
                    call(*arguments)
                self.assertEqual(arguments[-2:], before)

    def test_a_tuple_may_stand_for_a_list(self):
        for name, (call, arguments) in WITH_LISTS.items():
            with self.subTest(name):
                others = [tuple(argument) if isinstance(argument, list) else argument for argument in arguments]
                self.assertNotEqual([type(argument) for argument in others], [type(argument) for argument in arguments])
                self.assert_same(call(*others), call(*arguments))

    def test_a_wrong_tuple_has_the_error_of_the_list(self):
        for name, (call, arguments) in WRONG_LISTS.items():
            with self.subTest(name):
                others = [tuple(argument) if isinstance(argument, list) else argument for argument in arguments]
                with self.assertRaises(ParcelError) as caught:
                    call(*arguments)
                error = caught.exception
                self.assert_told(type(error), vars(error), call, *others)

    def test_lists_may_be_changed_after_the_call(self):
        pairs = [(40, False), (20, True)]
        told = [(40, 30), (30, 20)]
        log, houselog, search = Log(ROAD, *pairs), HouseLog(WIDTHS, 3, *told), Search(ROAD, PRICES)
        search.tell_all(*pairs)
        stand = [30, 20, 30]
        found = find(WIDTHS, 4, stand)
        before = found.pairs
        for changed in (pairs, told, stand):
            changed.clear()
        self.assertEqual(log.pairs, ((40, False), (20, True)))
        self.assertEqual(search.log, log)
        self.assertEqual(houselog.pairs, ((40, 30), (30, 20)))
        self.assertEqual(found.pairs, before)


class Returned(ParcelCase):
    def test_what_a_call_returns_is_new(self):
        for name, call in GIVING.items():
            with self.subTest(name):
                found = call()
                self.assertIn(type(found), (list, dict))
                self.assertGreater(len(found), 0)
                before = copy.copy(found)
                other = call()
                self.assertIsNot(other, found)
                found.clear()
                self.assertTrue(is_same(other, before))
                self.assertTrue(is_same(call(), before))

    def test_rows_and_pairs_are_tuples(self):
        for part in (LOG.row(), LOG[0], LOG.pairs, HOUSELOG[0], HOUSELOG.pairs, extras(LOG, PRICES)[0],
                     next(courses(LOG, PLAN))[0], dearest(LOG, PRICES, PLAN), paper_at_least(LOG, PRICES)[0],
                     paper_at_least(LOG, PRICES)[0][0], list(PLAN)[0], list(FOE)[0], play_foe(LOG, PRICES, PLAN, FOE),
                     house_paper(HOUSELOG)[0], house_paper(HOUSELOG)[0][0], list(HOUSE_PLAN)[0], WIDTHS.numbers):
            self.assertIs(type(part), tuple)

    def test_courses_may_be_changed_while_they_come(self):
        wanted = list(courses(LOG, PLAN))
        found = []
        for course in courses(LOG, PLAN):
            found.append(list(course))
            course.clear()
        self.assertEqual(found, wanted)

    def test_only_searches_change(self):
        before = (LOG.pairs, HOUSELOG.pairs, WIDTHS.numbers, vars(PRICES).copy(), vars(ROAD).copy())
        for call in GIVING.values():
            call()
        for call, arguments in [*WITH_LISTS.values(), *WITH_DICTIONARIES.values()]:
            call(*arguments)
        LOG.told(20, True)
        HOUSELOG.told(30, None)
        self.assertEqual((LOG.pairs, HOUSELOG.pairs, WIDTHS.numbers, vars(PRICES), vars(ROAD)), before)


class Together(ParcelCase):
    def test_a_search_by_its_advice_costs_what_is_told(self):
        # Whatever comes, what is spent by the advice is at most the least cost, and some answers reach it.
        for losses in range(3):
            for in_a_row in (False, True):
                road = Road(WIDTHS, losses, in_a_row=in_a_row)
                search = Search(road, PRICES)
                first = search.left()
                self.assertEqual(first, least_cost(Log(road), PRICES))
                self.assertEqual(self.most_spent(search), first)
                self.assertEqual(search.log, Log(road))
                self.assertEqual(most_apart(road, PRICES, first), 4)
                self.assertEqual(to_strike(road, PRICES, first), 0)
                self.assertGreater(to_strike(road, PRICES, first - 1), 0)

    def most_spent(self, search):
        probes = search.advice()
        if not probes:
            self.assertIsNotNone(search.log.known())
            return search.spent()
        most = 0
        for answered in (False, True):
            search.tell(probes[0], answered)
            most = max(most, self.most_spent(search))
            search.undo()
        return most

    def test_the_console_does_what_a_search_does(self):
        lines = ["best", "tell 30 no", "cost", "spent", "undo", "row"]
        search = Search(ROAD, PRICES)
        wanted = [" ".join(str(probe) for probe in search.advice()), "done"]
        search.tell(30, False)
        wanted += [str(search.left()), str(search.spent()), "done"]
        search.undo()
        wanted.append(",".join(str(number) for number in search.log.row()))
        self.assertEqual(console(ROAD, PRICES, lines), wanted)

    def test_texts_keep_what_costs_and_plans_need(self):
        for losses in range(4):
            for in_a_row in (False, True):
                log = Log(Road(WIDTHS, losses, in_a_row=in_a_row), (40, False), (20, True))
                back = read_log(write_log(log))
                self.assertEqual(least_cost(back, PRICES), least_cost(log, PRICES))
                plan = read_plan(write_plan(told_plan(log, PRICES)))
                self.assertEqual(check_plan(back, PRICES, plan), least_cost(log, PRICES))

    def test_a_road_with_houses(self):
        for stand in ([], [30], [10, 20], [30, 20, 10]):
            log = find(WIDTHS, 3, stand)
            self.assertEqual(log.known(), true_width(WIDTHS, stand))
            self.assertEqual([through(WIDTHS, stand, probe) for probe, _ in log], [told for _, told in log])
            self.assertLessEqual(len(log), least_probes(HouseLog(WIDTHS, 3)))


if __name__ == "__main__":
    unittest.main()
