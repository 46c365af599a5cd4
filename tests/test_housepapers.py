"""[42]: certificates that fewer probes are not enough."""

import copy
import random
import unittest

from helper import ParcelCase
from plain_houses import (
    all_house_logs,
    branches_at,
    coming_states,
    house_log,
    least_by_search,
    some_house_logs,
    start_of,
    state_of,
    wide_house_log,
)
from widestparcels.errors import BadNumber, BadPaper
from widestparcels.houseplans import check_house_paper, house_paper
from widestparcels.houses import least_probes

# For three widths and two houses: at least two probes.
PAPER = [((3, 2), 2), ((2, 2), 1), ((2, 1), 1)]
NO_STATES = (
    [3, 2], None, 3, "state", "32", (), (3,), (3, 2, 1), (4, 2), (3, 3), (0, 2), (-1, 2), (3, -1), (2, 0), (3, 0),
    (True, 1), (2, True), (1, False), (2, None), (2.0, 1), ("2", 1), ((2,), 1), ([2], 1), (2, [1]), (2, 10 ** 30),
)
NO_NUMBERS = (-1, -(10 ** 30), True, False, None, "1", 1.0, (1,), [1])


def is_right_state(start, state):
    if not isinstance(state, tuple) or [type(part) for part in state] != [int, int]:
        return False
    number, left = state
    return 1 <= number <= start[0] and 0 <= left <= start[1] and (number < 2 or left >= 1)


def is_right_number(number):
    return type(number) is int and number >= 0


def fault_of(log, v, pairs):
    """The place and the reason that the document names, or None if the certificate is right."""
    start = state_of(log)
    good = [pair for pair in pairs if is_right_state(start, pair[0]) and is_right_number(pair[1])]

    def stands(state, least):
        return any(other == state and count >= least for other, count in good)

    for place, (state, count) in enumerate(pairs):
        if not is_right_state(start, state):
            return place, "state"
        if not is_right_number(count):
            return place, "number"
        if count > 0 and state[0] == 1:
            return place, "one"
        for below in range(1, state[0]):
            if count > 1 and not any(stands(branch, count - 1) for branch in branches_at(state, below)):
                return place, "step"
    return None if stands(start, v) else (len(pairs), "start")


class PaperCase(ParcelCase):
    def assert_bad(self, place, reason, log, v, pairs):
        with self.subTest(v=v, pairs=pairs):
            self.assert_told(BadPaper, {"place": place, "reason": reason}, check_house_paper, log, v, pairs)

    def assert_as_told(self, log, v, pairs):
        """The call does what the plain reckoning says."""
        fault = fault_of(log, v, pairs)
        if fault is None:
            self.assertIs(check_house_paper(log, v, pairs), True)
        else:
            self.assert_bad(*fault, log, v, pairs)
        return fault


class RightPapers(PaperCase):
    def test_single_paper(self):
        log = wide_house_log(3, 2)
        for v in range(3):
            self.assertIs(check_house_paper(log, v, PAPER), True)
        self.assert_bad(3, "start", log, 3, PAPER)

    def test_lists_and_tuples_of_pairs(self):
        log = wide_house_log(3, 2)
        self.assertIs(check_house_paper(log, 2, tuple(PAPER)), True)
        self.assertIs(check_house_paper(log, 2, PAPER[::-1]), True)

    def test_a_state_may_stand_in_several_pairs(self):
        log = wide_house_log(3, 2)
        for more in (((3, 2), 0), ((3, 2), 2), ((2, 2), 0), ((2, 1), 1), ((1, 0), 0), ((1, 2), 0)):
            for place in range(4):
                pairs = PAPER[:place] + [more] + PAPER[place:]
                self.assertIs(check_house_paper(log, 2, pairs), True)

    def test_counts_of_zero_and_one_need_no_step(self):
        log = wide_house_log(3, 2)
        self.assertIs(check_house_paper(log, 0, [((3, 2), 0)]), True)
        self.assertIs(check_house_paper(log, 1, [((3, 2), 1)]), True)
        self.assertIs(check_house_paper(log, 1, [((3, 1), 1), ((3, 2), 1), ((2, 1), 1), ((1, 0), 0)]), True)

    def test_states_of_one_width(self):
        # The number of houses that are left may be 0 there, and only there.
        log = wide_house_log(3, 2)
        pairs = [((3, 2), 0), ((1, 0), 0), ((1, 1), 0), ((1, 2), 0)]
        self.assertIs(check_house_paper(log, 0, pairs), True)
        for number in (2, 3):
            self.assert_bad(1, "state", log, 0, [((3, 2), 0), ((number, 0), 0)])

    def test_known_widths(self):
        for log, state in (
            (wide_house_log(1, 3), (1, 3)), (wide_house_log(5, 0), (1, 0)),
            (house_log((5, 7, 9), 1, (9, 7)), (1, 0)), (house_log((5, 7, 9), 2, (9, None)), (1, 2)),
        ):
            self.assertEqual(state_of(log), state)
            self.assertIs(check_house_paper(log, 0, [(state, 0)]), True)
            self.assert_bad(0, "start", log, 0, [])
            self.assert_bad(1, "start", log, 1, [(state, 0)])
            self.assert_bad(0, "one", log, 1, [(state, 1)])
            self.assert_bad(0, "state", log, 0, [((2, state[1]), 0)])
            self.assert_bad(0, "state", log, 0, [((1, state[1] + 1), 0)])
            self.assert_same(house_paper(log), [(state, 0)])

    def test_the_pairs_stay_as_they_were(self):
        log = wide_house_log(3, 2)
        for pairs in (list(PAPER), PAPER + [([1], 2)], PAPER + [((1, 1), [1])]):
            before = copy.deepcopy(pairs)
            for v in (2, 3):
                try:
                    check_house_paper(log, v, pairs)
                except BadPaper:
                    pass
            self.assertEqual(pairs, before)


class BadPairs(PaperCase):
    def setUp(self):
        self.log = wide_house_log(3, 2)

    def test_state(self):
        for state in NO_STATES:
            for count in (0, 1, -1, None):
                for place in (0, 1, 3):
                    pairs = PAPER[:place] + [(state, count)] + PAPER[place:]
                    self.assert_bad(place, "state", self.log, 2, pairs)

    def test_number(self):
        for count in NO_NUMBERS:
            for state in ((3, 2), (2, 1), (1, 0)):
                for place in (0, 1, 3):
                    pairs = PAPER[:place] + [(state, count)] + PAPER[place:]
                    self.assert_bad(place, "number", self.log, 2, pairs)

    def test_one(self):
        for state in ((1, 0), (1, 1), (1, 2)):
            for count in (1, 2, 10 ** 30):
                for place in (0, 1, 3):
                    pairs = PAPER[:place] + [(state, count)] + PAPER[place:]
                    self.assert_bad(place, "one", self.log, 2, pairs)

    def test_step(self):
        for place, (state, count) in enumerate(PAPER):
            more = PAPER[:place] + [(state, count + 1)] + PAPER[place + 1:]
            self.assert_bad(place, "step", self.log, 2, more)
        # Without (2, 2) nothing covers 1 below, and without (2, 1) nothing covers 2 below.
        self.assert_bad(0, "step", self.log, 2, [((3, 2), 2), ((2, 1), 1)])
        self.assert_bad(0, "step", self.log, 2, [((3, 2), 2), ((2, 2), 1)])
        self.assert_bad(0, "step", self.log, 2, [((3, 2), 2), ((2, 2), 1), ((2, 1), 0)])

    def test_a_step_by_any_kept(self):
        # At 3 below (2, 1) comes if two widths are kept, although fewer than three are.
        log = wide_house_log(4, 2)
        pairs = [((4, 2), 2), ((3, 2), 1), ((2, 2), 1), ((2, 1), 1)]
        self.assertIs(check_house_paper(log, 2, pairs), True)
        # At 1 below only one width is kept.
        self.assert_bad(0, "step", log, 2, [((4, 2), 2), ((2, 2), 1), ((2, 1), 1), ((3, 1), 1)])

    def test_a_step_with_one_house_left(self):
        # A told width is then known, however many widths are below the probe.
        log = wide_house_log(4, 1)
        pairs = [((4, 1), 2), ((3, 1), 1), ((2, 1), 1)]
        self.assert_bad(0, "step", log, 2, pairs)
        self.assert_bad(0, "step", log, 2, pairs + [((1, 0), 0), ((1, 1), 0)])
        # A count above 0 for one width is bad itself, but counts for the step of an earlier pair.
        self.assert_bad(1, "one", log, 2, [((4, 1), 2), ((1, 0), 1)])

    def test_start(self):
        self.assert_bad(0, "start", self.log, 0, [])
        self.assert_bad(0, "start", self.log, 0, ())
        self.assert_bad(0, "start", self.log, 2, [])
        self.assert_bad(2, "start", self.log, 0, PAPER[1:])
        self.assert_bad(3, "start", self.log, 10 ** 30, PAPER)
        self.assert_bad(1, "start", self.log, 1, [((3, 2), 0)])
        # Another pair does not stand for the one of the log.
        self.assert_bad(1, "start", self.log, 1, [((3, 1), 1)])
        self.assert_bad(1, "start", self.log, 0, [((2, 2), 1)])

    def test_several_reasons_at_once(self):
        # Within a pair the reasons have an order.
        self.assert_bad(0, "state", self.log, 9, [((4, 2), None)])
        self.assert_bad(0, "number", self.log, 9, [((1, 0), True)])
        self.assert_bad(0, "one", self.log, 9, [((1, 0), 9)])
        self.assert_bad(0, "step", self.log, 9, [((3, 2), 9)])
        # Of several pairs the first bad one is told, of whatever kind it is.
        wrong = {"state": ((9, 9), 1), "number": ((2, 1), -1), "one": ((1, 0), 1), "step": ((3, 2), 9)}
        for first, pair in wrong.items():
            for second, other in wrong.items():
                self.assert_bad(0, first, self.log, 9, [pair, other])
                self.assert_bad(1, first, self.log, 9, [((2, 1), 0), pair, other])

    def test_bad_pairs_that_do_not_count(self):
        # Each of these would be equal to what is needed, but has a bad state or a bad count.
        self.assert_bad(0, "step", self.log, 2, [((3, 2), 2), ((2, 2), True), ((2, 1), True)])
        self.assert_bad(0, "step", self.log, 2, [((3, 2), 2), ((2, 2), 1.0), ((2, 1), "1")])
        self.assert_bad(0, "step", self.log, 2, [((3, 2), 2), ([2, 2], 1), ((2, True), 1)])

    def test_bad_pairs_that_count(self):
        # A pair whose own step fails still counts.
        self.assert_bad(1, "step", self.log, 2, [((3, 2), 2), ((2, 2), 9), ((2, 1), 9)])
        self.assert_bad(1, "step", self.log, 2, [((3, 2), 2), ((2, 2), 9), ((2, 2), 1), ((2, 1), 9)])
        self.assert_bad(1, "one", self.log, 2, [((3, 2), 2), ((1, 1), 1), ((1, 2), 1)])

    def test_by_chance(self):
        chance = random.Random(42)
        reasons = dict.fromkeys(("state", "number", "one", "step", "start", None), 0)
        for log in some_house_logs():
            start = state_of(log)
            table = [(number, left) for number in range(start[0] + 2) for left in range(start[1] + 2)]
            right = house_paper(log)
            for _ in range(40):
                pairs = [pair for pair in right if chance.random() < 0.9]
                if chance.random() < 0.5:
                    pairs += [(chance.choice(table), chance.randint(-1, 4)) for _ in range(3)]
                if chance.random() < 0.3:
                    chance.shuffle(pairs)
                fault = self.assert_as_told(log, chance.randint(0, 4), pairs)
                reasons[fault and fault[1]] += 1
        self.assertGreater(min(reasons.values()), 5, reasons)

    def test_all_small_papers(self):
        # Whatever certificate is accepted, at least so many probes are needed.
        for many, houses in ((2, 1), (3, 1), (3, 2), (2, 2)):
            log = wide_house_log(many, houses)
            states = [state for state in coming_states(state_of(log)) if state[0] > 1]
            counts = [()]
            for _ in states:
                counts = [(*before, count) for before in counts for count in range(4)]
            for row in counts:
                pairs = list(zip(states, row))
                fault = self.assert_as_told(log, row[0], pairs)
                if fault is None:
                    self.assertLessEqual(row[0], least_probes(log))


class Errors(PaperCase):
    def test_wrong_v_is_told_first(self):
        for log in (wide_house_log(3, 2), wide_house_log(1, 0)):
            for v in NO_NUMBERS:
                for pairs in ([], PAPER, [((0, 0), 0)], [((3, 2), None)]):
                    self.assert_told(BadNumber, {"what": "probes", "value": v}, check_house_paper, log, v, pairs)


class OwnPapers(PaperCase):
    def test_for_least_probes_and_smaller_numbers(self):
        for log in some_house_logs():
            pairs = house_paper(log)
            least = least_probes(log)
            for v in range(least + 1):
                self.assertIs(check_house_paper(log, v, pairs), True)
            self.assert_bad(len(pairs), "start", log, least + 1, pairs)
            self.assertIsNone(fault_of(log, least, pairs))

    def test_the_pairs(self):
        logs = [log for _, _, _, log in all_house_logs((1, 5, 7, 9, 10), 3)]
        for log in [*some_house_logs(), *logs]:
            start = state_of(log)
            pairs = house_paper(log)
            self.assertIs(type(pairs), list)
            self.assertEqual(pairs[0][0], start)
            self.assertEqual(sorted(state for state, _ in pairs), sorted(coming_states(start)))
            for (number, left), count in pairs:
                can_be, houses = start_of(range(1, number + 1), left)
                self.assert_same(count, least_by_search(can_be, houses))
                self.assertIs(type(count), int)

    def test_single_papers(self):
        wanted = [((1, 1), 0), ((1, 2), 0), ((2, 1), 1), ((2, 2), 1), ((3, 2), 2)]
        found = house_paper(wide_house_log(3, 2))
        self.assertEqual(found[0], ((3, 2), 2))
        self.assertEqual(sorted(found), [((1, 0), 0), *wanted])
        self.assertEqual(house_paper(wide_house_log(2, 1))[0], ((2, 1), 1))
        self.assertEqual(sorted(house_paper(wide_house_log(2, 1))), [((1, 0), 0), ((1, 1), 0), ((2, 1), 1)])

    def test_the_list_may_be_changed(self):
        log = wide_house_log(3, 2)
        before = house_paper(log)
        house_paper(log).clear()
        self.assertEqual(house_paper(log), before)

    def test_the_widest_roads(self):
        for houses in (1, 4, 5, 8):
            log = wide_house_log(24, houses)
            pairs = house_paper(log)
            self.assertEqual(pairs[0], ((24, houses), least_probes(log)))
            self.assertEqual(len(dict(pairs)), len(pairs))
            self.assertIs(check_house_paper(log, least_probes(log), pairs), True)


if __name__ == "__main__":
    unittest.main()
