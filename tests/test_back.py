"""[30] and [31]: what a log can have been when some answers are forgotten."""

import itertools
import random
import unittest

from helper import ParcelCase
from plain import KINDS, possible
from widestparcels.back import fillings, possible_widths
from widestparcels.errors import BadPair, TooMany
from widestparcels.log import Log
from widestparcels.road import Road
from widestparcels.widths import Widths

ROAD = Road(Widths(1, 20, 30), 1)
HUNDRED = [(20, True)] * 99 + [(30, None)]


def plain_fillings(road, pairs):
    """All logs in which each None is filled in, False before True, that can come of some width."""
    choices = [(False, True) if answered is None else (answered,) for _, answered in pairs]
    found = []
    for answers in itertools.product(*choices):
        log = Log(road, *[(probe, answered) for (probe, _), answered in zip(pairs, answers)])
        if possible(log):
            found.append(log)
    return found


def some_pairs():
    """Roads of all kinds with pairs by chance, many of them forgotten."""
    chance = random.Random(30)
    for losses, in_a_row in KINDS:
        for numbers in ((1, 5, 7, 9), (2, 3), (1, 2, 3, 4, 5, 6, 7)):
            road = Road(Widths(*numbers), losses, in_a_row=in_a_row)
            for length in (0, 1, 2, 3, 5, 8):
                for _ in range(4):
                    yield road, [(chance.choice(numbers[1:]), chance.choice((True, False, None))) for _ in range(length)]


class Fillings(ParcelCase):
    def test_against_a_plain_filling(self):
        for road, pairs in some_pairs():
            found = fillings(road, pairs)
            self.assertIs(type(found), list)
            self.assertEqual(found, plain_fillings(road, pairs))
            for log in found:
                self.assertIs(type(log), Log)
                self.assertTrue(all(answered is True or answered is False for _, answered in log))

    def test_false_comes_before_true_at_the_first_difference(self):
        road = Road(Widths(1, 20, 30), 3)
        found = [log.pairs for log in fillings(road, [(20, None), (30, True), (30, None)])]
        self.assertEqual(found, [
            ((20, False), (30, True), (30, False)),
            ((20, False), (30, True), (30, True)),
            ((20, True), (30, True), (30, False)),
            ((20, True), (30, True), (30, True)),
        ])

    def test_impossible_fillings_are_left_out(self):
        road = Road(Widths(1, 20, 30), 0)
        self.assertEqual([log.pairs for log in fillings(road, [(20, None), (30, True)])], [((20, True), (30, True))])
        found = [log.pairs for log in fillings(road, [(20, None), (30, None)])]
        self.assertEqual(found, [
            ((20, False), (30, False)), ((20, True), (30, False)), ((20, True), (30, True)),
        ])

    def test_pairs_that_make_every_filling_impossible(self):
        road = Road(Widths(1, 20, 30), 0)
        for pairs in ([(20, False), (20, True)], [(30, None), (20, True), (20, False)], [(30, True), (20, False)]):
            self.assert_same(fillings(road, pairs), [])
            self.assert_same(possible_widths(road, pairs), [])

    def test_none_forgotten(self):
        self.assertEqual(fillings(ROAD, []), [Log(ROAD)])
        self.assertEqual(fillings(ROAD, [(20, True), (30, False)]), [Log(ROAD, (20, True), (30, False))])
        self.assertEqual(fillings(Road(Widths(7), 0), []), [Log(Road(Widths(7), 0))])

    def test_ten_forgotten(self):
        road = Road(Widths(1, 20, 30), 3)
        pairs = [(30, None)] * 10
        self.assertEqual(fillings(road, pairs), plain_fillings(road, pairs))
        # At most three of ten silences fit the greatest width; no answer at all fits the others.
        self.assertEqual(len(fillings(road, pairs)), 1 + 120 + 45 + 10 + 1)
        pairs = [(20, True)] * 5 + [(30, None)] * 10 + [(20, False)]
        self.assertEqual(fillings(road, pairs), plain_fillings(road, pairs))

    def test_eleven_forgotten(self):
        for more in (11, 12, 89):
            for pairs in ([(30, None)] * more, [(20, True)] * 11 + [(20, None)] * more):
                self.assert_told(TooMany, {"limit": 10}, fillings, ROAD, pairs)
                self.assert_told(TooMany, {"limit": 10}, possible_widths, ROAD, pairs)

    def test_hundred_pairs(self):
        self.assertEqual([log.pairs[99] for log in fillings(ROAD, HUNDRED)], [(30, False), (30, True)])
        self.assertEqual([log.pairs[:99] for log in fillings(ROAD, HUNDRED)], [tuple(HUNDRED[:99])] * 2)
        self.assertEqual(possible_widths(ROAD, HUNDRED), [20, 30])
        pairs = [(20, True)] * 90 + [(20, None)] * 10
        self.assertEqual(len(fillings(ROAD, pairs)), 11)

    def test_more_than_hundred_pairs(self):
        # A hundred is told before ten.
        for pairs in (HUNDRED + [(20, True)], [(20, None)] * 101, [(20, True)] * 150):
            self.assert_told(TooMany, {"limit": 100}, fillings, ROAD, pairs)
            self.assert_told(TooMany, {"limit": 100}, possible_widths, ROAD, pairs)


class PossibleWidths(ParcelCase):
    def test_against_a_plain_filling(self):
        for road, pairs in some_pairs():
            logs = plain_fillings(road, pairs)
            wanted = [width for width in road.widths.numbers if any(width in possible(log) for log in logs)]
            self.assert_same(possible_widths(road, pairs), wanted)

    def test_single_pairs(self):
        road = Road(Widths(1, 20, 30), 0)
        self.assert_same(possible_widths(road, []), [1, 20, 30])
        self.assert_same(possible_widths(road, [(20, None)]), [1, 20, 30])
        self.assert_same(possible_widths(road, [(20, None), (30, False)]), [1, 20])
        self.assert_same(possible_widths(road, [(20, None), (30, True)]), [30])

    def test_widths_that_do_not_stand_side_by_side(self):
        # If 30 was answered, the silences of 20 do not stand one behind the other; otherwise only 1 is left.
        road = Road(Widths(1, 20, 30), 1, in_a_row=True)
        pairs = [(20, False), (30, None), (20, False)]
        self.assertEqual(possible_widths(road, pairs), [1, 30])


class Errors(ParcelCase):
    def assert_bad_pair(self, place, pairs):
        with self.subTest(pairs=pairs):
            for call in (fillings, possible_widths):
                self.assert_told(BadPair, {"place": place}, call, ROAD, pairs)
                self.assert_told(BadPair, {"place": place}, call, ROAD, tuple(pairs))

    def test_probes_that_are_no_probes(self):
        for probe in (1, 0, 2, 21, 31, -20, 10 ** 30, True, False, None, "20", 20.0, (20,), [20]):
            for answered in (True, False, None):
                self.assert_bad_pair(0, [(probe, answered)])
                self.assert_bad_pair(2, [(20, None), (30, True), (probe, answered)])

    def test_answers_that_are_none(self):
        for answered in (1, 0, "yes", "", 1.0, 0.0, (True,), (None,), []):
            self.assert_bad_pair(0, [(20, answered)])
            self.assert_bad_pair(1, [(30, None), (20, answered), (20, True)])

    def test_the_first_of_several_wrong_pairs(self):
        self.assert_bad_pair(1, [(20, None), (1, None), (30, 0)])
        self.assert_bad_pair(1, [(20, None), (30, 0), (1, None)])

    def test_wrong_pairs_are_told_before_too_many(self):
        self.assert_bad_pair(100, HUNDRED + [(1, None)])
        self.assert_bad_pair(120, HUNDRED + [(20, None)] * 20 + [(20, 1)])
        self.assert_bad_pair(0, [(20, "no")] + HUNDRED + HUNDRED)
        self.assert_bad_pair(11, [(20, None)] * 11 + [(1, True)])

    def test_tuples_and_lists_of_pairs(self):
        for road, pairs in itertools.islice(some_pairs(), 40):
            self.assertEqual(fillings(road, tuple(pairs)), fillings(road, pairs))
            self.assertEqual(possible_widths(road, tuple(pairs)), possible_widths(road, pairs))

    def test_lists_may_be_changed(self):
        pairs = [(20, None), (30, False)]
        logs = fillings(ROAD, pairs)
        widths = possible_widths(ROAD, pairs)
        self.assertEqual(pairs, [(20, None), (30, False)])
        before = [log.pairs for log in logs]
        pairs[0] = (30, True)
        pairs.append((20, True))
        self.assertEqual([log.pairs for log in logs], before)
        logs.clear()
        widths.clear()
        self.assertEqual(len(fillings(ROAD, [(20, None), (30, False)])), 2)
        self.assertEqual(possible_widths(ROAD, [(20, None), (30, False)]), [1, 20, 30])
        self.assertEqual(ROAD.widths.numbers, (1, 20, 30))


if __name__ == "__main__":
    unittest.main()
