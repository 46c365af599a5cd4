"""[2], [3] and [7]: Log as a list of pairs."""

import unittest

from helper import ParcelCase
from plain import wide_log
from widestparcels.errors import BadNumber, BadPair, TooMany, Unlike
from widestparcels.log import Log
from widestparcels.road import Road
from widestparcels.widths import Widths

ROAD = Road(Widths(1, 20, 30), 1)
HUNDRED = ((20, True),) * 99 + ((30, False),)


class LogCase(ParcelCase):
    def assert_bad_pair(self, place, *pairs):
        with self.subTest(pairs=pairs):
            self.assert_told(BadPair, {"place": place}, Log, ROAD, *pairs)


class MakingLogs(LogCase):
    def test_attributes(self):
        log = Log(ROAD, (20, True), (30, False))
        self.assertIs(log.road, ROAD)
        self.assert_same(log.pairs, ((20, True), (30, False)))
        self.assertIs(log.pairs[0][1], True)
        self.assertIs(log.pairs[1][1], False)

    def test_empty(self):
        self.assert_same(Log(ROAD).pairs, ())
        self.assert_same(Log(Road(Widths(5), 0)).pairs, ())

    def test_every_probe_with_every_answer(self):
        for probe in (20, 30):
            for answered in (True, False):
                self.assert_same(Log(ROAD, (probe, answered)).pairs, ((probe, answered),))

    def test_impossible_logs_can_be_made(self):
        pairs = ((30, False), (30, False), (30, True))
        self.assertEqual(Log(Road(Widths(1, 20, 30), 0), *pairs).pairs, pairs)

    def test_least_width_is_no_probe(self):
        self.assert_bad_pair(0, (1, True))
        self.assert_bad_pair(0, (1, False))
        self.assert_told(BadPair, {"place": 0}, Log, Road(Widths(5), 0), (5, True))

    def test_widths_that_the_road_does_not_have(self):
        for probe in (0, 2, 19, 21, 31, -20, 10 ** 30):
            self.assert_bad_pair(0, (probe, True))

    def test_probes_that_are_no_integers(self):
        for probe in (True, False, None, "20", 20.0, (20,), [20]):
            self.assert_bad_pair(0, (probe, True))
        # True is equal to 1, which is a width but no probe.
        self.assert_told(BadPair, {"place": 0}, Log, Road(Widths(1, 2), 0), (True, True))

    def test_second_parts_that_are_neither_true_nor_false(self):
        for answered in (1, 0, None, "yes", "", 1.0, 0.0, (True,), []):
            self.assert_bad_pair(0, (20, answered))
            self.assert_bad_pair(2, (20, True), (30, False), (20, answered))

    def test_the_first_of_several_wrong_pairs(self):
        self.assert_bad_pair(1, (20, True), (1, True), (30, 0), (5, True))
        self.assert_bad_pair(1, (20, True), (30, 0), (1, True))
        self.assert_bad_pair(0, (21, None), (30, 0))

    def test_hundred_pairs(self):
        log = Log(ROAD, *HUNDRED)
        self.assert_same(log.pairs, HUNDRED)
        self.assertEqual(len(log), 100)

    def test_more_than_hundred_pairs(self):
        for more in (1, 2, 50):
            self.assert_told(TooMany, {"limit": 100}, Log, ROAD, *HUNDRED, *([(20, True)] * more))

    def test_a_wrong_pair_among_more_than_hundred_is_told_first(self):
        self.assert_bad_pair(100, *HUNDRED, (1, True))
        self.assert_bad_pair(102, *HUNDRED, (20, True), (30, True), (30, 1))
        self.assert_bad_pair(0, (20, None), *HUNDRED, (20, True))
        self.assert_bad_pair(7, *HUNDRED[:7], (19, True), *HUNDRED)

    def test_a_list_that_was_passed_does_not_matter_later(self):
        pairs = [(20, True), (30, False)]
        log = Log(ROAD, *pairs)
        pairs.append((20, True))
        pairs[0] = (30, True)
        self.assertEqual(log.pairs, ((20, True), (30, False)))

    def test_road_by_name(self):
        self.assertIs(Log(road=ROAD).road, ROAD)


class ReadingLogs(LogCase):
    def setUp(self):
        self.log = Log(ROAD, (20, True), (30, False), (30, True))

    def test_items(self):
        self.assert_same(self.log[0], (20, True))
        self.assert_same(self.log[1], (30, False))
        self.assert_same(self.log[2], (30, True))

    def test_other_places(self):
        for at in (-1, -3, 3, 4, True, False, None, "0", 0.0, (0,)):
            with self.subTest(at=at):
                self.assert_told(BadNumber, {"what": "place", "value": at}, lambda: self.log[at])
        self.assert_told(BadNumber, {"what": "place", "value": 0}, lambda: Log(ROAD)[0])
        hundred = Log(ROAD, *HUNDRED)
        self.assertEqual(hundred[99], (30, False))
        self.assert_told(BadNumber, {"what": "place", "value": 100}, lambda: hundred[100])

    def test_len(self):
        self.assert_same(len(Log(ROAD)), 0)
        self.assert_same(len(self.log), 3)

    def test_iteration(self):
        self.assertEqual(list(self.log), [(20, True), (30, False), (30, True)])
        self.assertEqual([pair for pair in self.log], list(self.log))
        self.assertEqual(list(Log(ROAD)), [])

    def test_nested_iterations_do_not_disturb_each_other(self):
        found = [(first, second) for first in self.log for second in self.log]
        self.assertEqual(len(found), 9)


class ComparingLogs(LogCase):
    def test_equal(self):
        first = Log(Road(Widths(1, 20), 1), (20, True))
        second = Log(Road(Widths(1, 20), 1), (20, True))
        self.assertIs(first == second, True)
        self.assertIs(first != second, False)
        self.assertIs(Log(ROAD) == Log(ROAD), True)

    def test_not_equal(self):
        log = Log(ROAD, (20, True), (30, False))
        others = (
            Log(ROAD),
            Log(ROAD, (20, True)),
            Log(ROAD, (30, False), (20, True)),
            Log(ROAD, (20, True), (30, True)),
            Log(ROAD, (20, True), (30, False), (30, False)),
            Log(Road(Widths(1, 20, 30), 2), (20, True), (30, False)),
            Log(Road(Widths(1, 20, 30), 1, in_a_row=True), (20, True), (30, False)),
            Log(Road(Widths(2, 20, 30), 1), (20, True), (30, False)),
        )
        for other in others:
            self.assertIs(log == other, False)
            self.assertIs(other == log, False)
            self.assertIs(log != other, True)

    def test_other_kinds_are_not_equal(self):
        log = Log(ROAD, (20, True))
        for other in (None, 1, "log", ((20, True),), [(20, True)], ROAD):
            self.assertIs(log == other, False)
            self.assertIs(log != other, True)

    def test_goes_on(self):
        pairs = ((20, True), (30, False), (30, False))
        logs = [Log(ROAD, *pairs[:end]) for end in range(4)]
        for first in range(4):
            for second in range(4):
                self.assertIs(logs[first] <= logs[second], first <= second, (first, second))

    def test_does_not_go_on(self):
        log = Log(ROAD, (20, True), (30, False))
        for pairs in (((30, False), (20, True)), ((20, True), (30, True)), ((20, False), (30, False), (20, True))):
            self.assertIs(log <= Log(ROAD, *pairs), False)
        self.assertIs(Log(ROAD, (30, False)) <= log, False)

    def test_goes_on_of_unlike_logs(self):
        for road in unlike_roads():
            self.assert_told(Unlike, {}, lambda: Log(ROAD) <= Log(road))
            self.assert_told(Unlike, {}, lambda: Log(road) <= Log(ROAD, (20, True)))

    def test_goes_on_of_other_kinds(self):
        for other in (None, 1, (), ROAD):
            with self.assertRaises(TypeError):
                Log(ROAD) <= other

    def test_roads_that_are_equal_but_not_the_same(self):
        self.assertIs(Log(ROAD) <= Log(Road(Widths(1, 20, 30), 1), (20, True)), True)


def unlike_roads():
    return (
        Road(Widths(1, 20, 31), 1),
        Road(Widths(1, 20), 1),
        Road(Widths(1, 20, 30), 0),
        Road(Widths(1, 20, 30), 1, in_a_row=True),
    )


class AddingLogs(LogCase):
    def test_pairs_of_both(self):
        first = Log(ROAD, (20, True), (30, False))
        second = Log(Road(Widths(1, 20, 30), 1), (30, True))
        found = first + second
        self.assertIs(type(found), Log)
        self.assertEqual(found, Log(ROAD, (20, True), (30, False), (30, True)))
        self.assertEqual(second + first, Log(ROAD, (30, True), (20, True), (30, False)))

    def test_the_logs_stay_as_they_were(self):
        first = Log(ROAD, (20, True))
        second = Log(ROAD, (30, True))
        found = first + second
        first.told(30, False)
        self.assertEqual(first.pairs, ((20, True),))
        self.assertEqual(second.pairs, ((30, True),))
        found += second
        self.assertEqual(len(found), 3)
        self.assertEqual(second.pairs, ((30, True),))

    def test_empty_logs(self):
        log = Log(ROAD, (20, True))
        self.assertEqual(log + Log(ROAD), log)
        self.assertEqual(Log(ROAD) + log, log)
        self.assertEqual(Log(ROAD) + Log(ROAD), Log(ROAD))

    def test_unlike_logs(self):
        for road in unlike_roads():
            self.assert_told(Unlike, {}, lambda: Log(ROAD) + Log(road))
            self.assert_told(Unlike, {}, lambda: Log(road) + Log(ROAD))

    def test_other_kinds(self):
        for other in (None, 1, ((20, True),), ROAD):
            with self.assertRaises(TypeError):
                Log(ROAD) + other

    def test_too_long(self):
        hundred = Log(ROAD, *HUNDRED)
        one = Log(ROAD, (20, True))
        self.assertEqual((Log(ROAD, *HUNDRED[1:]) + one).pairs, HUNDRED[1:] + ((20, True),))
        self.assert_told(TooMany, {"limit": 100}, lambda: hundred + one)
        self.assert_told(TooMany, {"limit": 100}, lambda: one + hundred)
        self.assert_told(TooMany, {"limit": 100}, lambda: hundred + hundred)
        self.assertEqual(hundred + Log(ROAD), hundred)

    def test_unlike_is_told_before_too_many(self):
        other = Log(Road(Widths(1, 20, 30), 0), *HUNDRED)
        self.assert_told(Unlike, {}, lambda: Log(ROAD, *HUNDRED) + other)


class Telling(LogCase):
    def test_one_pair_more(self):
        log = Log(ROAD, (20, True))
        found = log.told(30, False)
        self.assertIs(type(found), Log)
        self.assertEqual(found, Log(ROAD, (20, True), (30, False)))
        self.assertEqual(log, Log(ROAD, (20, True)))
        self.assertEqual(log.told(probe=20, answered=True).pairs, ((20, True), (20, True)))

    def test_wrong_pairs(self):
        for many in (0, 1, 5):
            log = wide_log(3, 0, False, *([(2, True)] * many))
            for pair in ((1, True), (4, True), (True, True), (None, False), (2, 1), (2, 0), (2, None)):
                self.assert_told(BadPair, {"place": many}, log.told, *pair)
            self.assertEqual(len(log), many)

    def test_up_to_hundred_pairs(self):
        log = Log(ROAD, *HUNDRED[:99])
        self.assertEqual(len(log.told(30, False)), 100)
        self.assert_told(BadPair, {"place": 99}, log.told, 1, False)

    def test_hundred_pairs_already(self):
        log = Log(ROAD, *HUNDRED)
        self.assert_told(TooMany, {"limit": 100}, log.told, 20, True)
        self.assert_told(TooMany, {"limit": 100}, log.told, 30, False)

    def test_a_wrong_pair_is_told_before_too_many(self):
        log = Log(ROAD, *HUNDRED)
        self.assert_told(BadPair, {"place": 100}, log.told, 1, True)
        self.assert_told(BadPair, {"place": 100}, log.told, 20, 1)
        self.assertEqual(log.pairs, HUNDRED)


if __name__ == "__main__":
    unittest.main()
