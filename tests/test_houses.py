"""[2], [3], [26], [27] and [28]: house logs, and the probes of roads on which houses tell their width."""

import unittest

from helper import ParcelCase
from plain_houses import (
    all_house_logs,
    first_told,
    house_log,
    least_by_search,
    stands,
    start_of,
    tellings,
    useful_among,
    wide_house_log,
    width_of,
)
from widestparcels.errors import BadNumber, BadPair
from widestparcels.houses import HouseLog, least_probes, told_probe
from widestparcels.widths import Widths

WIDTHS = Widths(1, 20, 30, 40)
NUMBERS = (1, 5, 7, 9)
NO_NUMBERS = (True, False, None, "1", 1.0, (1,), [1])


class HouseCase(ParcelCase):
    def assert_bad_pair(self, place, widths, houses, *pairs):
        with self.subTest(houses=houses, pairs=pairs):
            self.assert_told(BadPair, {"place": place}, HouseLog, widths, houses, *pairs)


class MakingHouseLogs(HouseCase):
    def test_attributes(self):
        log = HouseLog(WIDTHS, 2, (30, 20), (20, None))
        self.assertIs(log.widths, WIDTHS)
        self.assert_same(log.houses, 2)
        self.assert_same(log.pairs, ((30, 20), (20, None)))
        self.assert_same(HouseLog(WIDTHS, 0).pairs, ())
        self.assert_same(HouseLog(widths=WIDTHS, houses=8).houses, 8)

    def test_the_number_of_houses(self):
        for houses in range(9):
            self.assert_same(HouseLog(WIDTHS, houses).houses, houses)
        for houses in (-1, 9, 10 ** 30, -10 ** 30, *NO_NUMBERS):
            self.assert_told(BadNumber, {"what": "houses", "value": houses}, HouseLog, WIDTHS, houses)

    def test_the_houses_are_checked_before_the_pairs(self):
        for houses in (-1, 9, None, True):
            wanted = {"what": "houses", "value": houses}
            self.assert_told(BadNumber, wanted, HouseLog, WIDTHS, houses, (1, None), (20, True))

    def test_every_right_pair_at_once(self):
        for probe in (20, 30, 40):
            for told in (None, 1, 20, 30):
                if told is None or told < probe:
                    self.assertEqual(HouseLog(WIDTHS, 3, (probe, told)).pairs, ((probe, told),))

    def test_probes_that_are_not_useful(self):
        self.assert_bad_pair(0, WIDTHS, 2, (1, None))
        self.assert_bad_pair(1, WIDTHS, 2, (30, None), (20, None))
        self.assert_bad_pair(1, WIDTHS, 2, (30, None), (30, None))
        self.assert_bad_pair(1, WIDTHS, 2, (30, 20), (30, None))
        self.assert_bad_pair(1, WIDTHS, 2, (30, 20), (40, 1))
        self.assert_bad_pair(2, WIDTHS, 3, (30, 20), (20, None), (20, None))

    def test_no_probe_is_useful_when_the_width_is_known(self):
        for probe in (1, 20, 30, 40):
            for told in (None, 1, 20, 30):
                self.assert_bad_pair(0, WIDTHS, 0, (probe, told))
                self.assert_bad_pair(1, WIDTHS, 1, (40, 20), (probe, told))
                self.assert_bad_pair(1, WIDTHS, 2, (40, None), (probe, told))
        for houses in (0, 1, 8):
            self.assert_bad_pair(0, Widths(5), houses, (5, None))

    def test_probes_that_are_no_widths(self):
        for probe in (0, 2, 19, 21, 41, -20, 10 ** 30, True, False, None, "20", 20.0, (20,), [20]):
            self.assert_bad_pair(0, WIDTHS, 2, (probe, None))
            self.assert_bad_pair(1, WIDTHS, 2, (40, 30), (probe, None))

    def test_told_widths_that_cannot_be(self):
        # Not a width of the list.
        for told in (0, 2, 19, 21, -1, 10 ** 30):
            self.assert_bad_pair(0, WIDTHS, 2, (40, told))
        # Struck by an answered probe, or by a width that was told.
        self.assert_bad_pair(1, WIDTHS, 2, (20, None), (40, 1))
        self.assert_bad_pair(1, WIDTHS, 3, (40, 20), (20, 30))

    def test_told_widths_that_are_not_below_the_probe(self):
        for probe in (20, 30, 40):
            for told in (20, 30, 40):
                if told >= probe:
                    self.assert_bad_pair(0, WIDTHS, 2, (probe, told))

    def test_told_values_that_are_no_widths(self):
        # True is equal to 1, which can be and is less than each probe.
        for told in (True, False, "1", "", 1.0, (1,), [1]):
            self.assert_bad_pair(0, WIDTHS, 2, (20, told))
            self.assert_bad_pair(1, WIDTHS, 2, (40, 30), (30, told))
        # A second part of a Log's pair does not stand for None.
        self.assert_bad_pair(0, Widths(5, 7), 1, (7, False))
        self.assert_bad_pair(0, Widths(5, 7), 1, (7, True))

    def test_the_first_of_several_wrong_pairs(self):
        self.assert_bad_pair(1, WIDTHS, 3, (40, 30), (30, 30), (1, None), (20, True))
        self.assert_bad_pair(1, WIDTHS, 3, (40, 30), (1, None), (30, 30))
        self.assert_bad_pair(0, WIDTHS, 3, (40, "1"), (1, None), (30, 30))
        self.assert_bad_pair(2, WIDTHS, 3, (40, 30), (20, None), (20, None), (None, None))

    def test_each_pair_is_right_or_wrong_as_the_document_says(self):
        for pairs, can_be, left, log in all_house_logs(NUMBERS, 3):
            for probe in (*NUMBERS, 0, 6, True):
                for told in (None, *NUMBERS, 0, 6, True):
                    useful = probe is not True and probe in useful_among(NUMBERS, can_be)
                    if useful and told is not True and told in tellings(can_be, probe):
                        wanted = (*pairs, (probe, told))
                        self.assertEqual(log.told(probe, told).pairs, wanted)
                    else:
                        self.assert_told(BadPair, {"place": len(pairs)}, log.told, probe, told)
                        wrong = (*pairs, (probe, told))
                        self.assert_told(BadPair, {"place": len(pairs)}, HouseLog, log.widths, log.houses, *wrong)

    def test_a_list_that_was_passed_does_not_matter_later(self):
        pairs = [(40, 30), (30, 20)]
        log = HouseLog(WIDTHS, 3, *pairs)
        pairs.append((20, None))
        pairs[0] = (40, None)
        self.assertEqual(log.pairs, ((40, 30), (30, 20)))
        self.assertEqual(log.can_be(), [1, 20])


class ReadingHouseLogs(HouseCase):
    def setUp(self):
        self.log = HouseLog(WIDTHS, 3, (40, 30), (20, None), (30, 20))

    def test_items(self):
        self.assert_same(self.log[0], (40, 30))
        self.assert_same(self.log[1], (20, None))
        self.assert_same(self.log[2], (30, 20))

    def test_other_places(self):
        for at in (-1, -3, 3, 4, True, False, None, "0", 0.0, (0,)):
            with self.subTest(at=at):
                self.assert_told(BadNumber, {"what": "place", "value": at}, lambda: self.log[at])
        self.assert_told(BadNumber, {"what": "place", "value": 0}, lambda: HouseLog(WIDTHS, 3)[0])

    def test_len_and_iteration(self):
        self.assert_same(len(self.log), 3)
        self.assert_same(len(HouseLog(WIDTHS, 3)), 0)
        self.assertEqual(list(self.log), [(40, 30), (20, None), (30, 20)])
        self.assertEqual(list(HouseLog(WIDTHS, 3)), [])
        self.assertEqual(len([(first, second) for first in self.log for second in self.log]), 9)

    def test_equal(self):
        other = HouseLog(Widths(1, 20, 30, 40), 3, (40, 30), (20, None), (30, 20))
        self.assertIs(self.log == other, True)
        self.assertIs(self.log != other, False)
        self.assertIs(HouseLog(WIDTHS, 0) == HouseLog(Widths(1, 20, 30, 40), 0), True)

    def test_not_equal(self):
        others = (
            HouseLog(WIDTHS, 3),
            HouseLog(WIDTHS, 3, (40, 30), (20, None)),
            HouseLog(WIDTHS, 3, (20, None), (40, 30), (30, 20)),
            HouseLog(WIDTHS, 3, (40, 30), (20, None), (30, None)),
            HouseLog(WIDTHS, 4, (40, 30), (20, None), (30, 20)),
            HouseLog(Widths(1, 20, 30, 40, 50), 3, (40, 30), (20, None), (30, 20)),
        )
        for other in others:
            self.assertIs(self.log == other, False)
            self.assertIs(other == self.log, False)
            self.assertIs(self.log != other, True)

    def test_logs_that_leave_the_same_are_not_equal(self):
        self.assertIs(HouseLog(WIDTHS, 1) == HouseLog(WIDTHS, 2), False)
        first = HouseLog(WIDTHS, 2, (20, None), (30, None))
        self.assertIs(first == HouseLog(WIDTHS, 2, (30, None)), False)

    def test_other_kinds_are_not_equal(self):
        for other in (None, 1, "log", self.log.pairs, list(self.log.pairs), WIDTHS):
            self.assertIs(self.log == other, False)
            self.assertIs(self.log != other, True)

    def test_told(self):
        log = HouseLog(WIDTHS, 3)
        first = log.told(40, 30)
        second = first.told(probe=20, answer=None)
        self.assertIs(type(second), HouseLog)
        self.assert_same(second.pairs, ((40, 30), (20, None)))
        self.assertIs(second.widths, WIDTHS)
        self.assertEqual(second.told(30, 20), self.log)
        # The logs before stay as they were.
        self.assertEqual([log.pairs, first.pairs], [(), ((40, 30),)])
        self.assertEqual([log.houses_left(), first.houses_left()], [3, 2])
        self.assertEqual([log.can_be(), first.can_be()], [[1, 20, 30, 40], [1, 20, 30]])

    def test_told_tells_the_place_in_the_longer_log(self):
        for log in (HouseLog(WIDTHS, 2), HouseLog(WIDTHS, 2, (40, 30)), self.log):
            before = log.pairs
            for probe, told in ((1, None), (41, None), (20, True), (20, "1"), (20, 20), (21, 20), (None, None)):
                self.assert_told(BadPair, {"place": len(before)}, log.told, probe, told)
            self.assertEqual(log.pairs, before)


class Possible(HouseCase):
    def assert_state(self, log, can_be, left):
        self.assert_same(log.can_be(), can_be)
        self.assert_same(log.houses_left(), left)
        self.assert_same(log.known(), can_be[0] if len(can_be) == 1 else None)
        self.assert_same(log.useful(), can_be[1:])

    def test_at_first(self):
        self.assert_state(HouseLog(WIDTHS, 0), [40], 0)
        self.assert_state(HouseLog(WIDTHS, 1), [1, 20, 30, 40], 1)
        self.assert_state(HouseLog(WIDTHS, 8), [1, 20, 30, 40], 8)
        for houses in (0, 1, 8):
            self.assert_state(HouseLog(Widths(7), houses), [7], houses)

    def test_answered(self):
        self.assert_state(HouseLog(WIDTHS, 2, (20, None)), [20, 30, 40], 2)
        self.assert_state(HouseLog(WIDTHS, 2, (20, None), (40, None)), [40], 2)
        self.assert_state(HouseLog(WIDTHS, 1, (30, None)), [30, 40], 1)

    def test_told_a_width(self):
        self.assert_state(HouseLog(WIDTHS, 2, (40, 30)), [1, 20, 30], 1)
        self.assert_state(HouseLog(WIDTHS, 2, (40, 20)), [1, 20], 1)
        self.assert_state(HouseLog(WIDTHS, 2, (40, 1)), [1], 1)
        self.assert_state(HouseLog(WIDTHS, 8, (40, 30), (30, 20)), [1, 20], 6)

    def test_told_a_width_when_one_house_is_left(self):
        self.assert_state(HouseLog(WIDTHS, 1, (40, 30)), [30], 0)
        self.assert_state(HouseLog(WIDTHS, 1, (30, 1)), [1], 0)
        self.assert_state(HouseLog(WIDTHS, 2, (40, 30), (30, 20)), [20], 0)
        self.assert_state(HouseLog(WIDTHS, 2, (40, 30), (20, None), (30, 20)), [20], 0)

    def test_example(self):
        log = house_log((10, 20, 30), 2, (30, 20))
        self.assert_state(log, [10, 20], 1)
        self.assertEqual([least_probes(log), told_probe(log)], [1, 20])

    def test_against_the_words(self):
        for _, can_be, left, log in all_house_logs(NUMBERS, 4):
            self.assert_same(log.can_be(), list(can_be))
            self.assert_same(log.houses_left(), left)
            self.assert_same(log.known(), can_be[0] if len(can_be) == 1 else None)
            self.assert_same(log.useful(), useful_among(NUMBERS, can_be))

    def test_against_all_stands(self):
        # The widths that can be are those of the roads on which each probe brings what was told.
        for pairs, can_be, _, log in all_house_logs((1, 5, 7, 9, 10), 3):
            found = {
                width_of((1, 5, 7, 9, 10), stand)
                for stand in stands((1, 5, 7, 9, 10), log.houses)
                if all(first_told(stand, probe) == told for probe, told in pairs)
            }
            self.assertEqual(log.can_be(), sorted(found))

    def test_the_lists_may_be_changed(self):
        log = HouseLog(WIDTHS, 3)
        log.can_be().clear()
        log.useful().append(50)
        log.can_be()[0] = 9
        self.assert_state(log, [1, 20, 30, 40], 3)
        self.assertEqual(WIDTHS.numbers, (1, 20, 30, 40))


class LeastProbes(HouseCase):
    def test_against_a_plain_search(self):
        for many in range(1, 11):
            for houses in range(9):
                log = wide_house_log(many, houses)
                self.assert_same(least_probes(log), least_by_search(*start_of(range(1, many + 1), houses)))

    def test_logs_with_pairs(self):
        for _, can_be, left, log in all_house_logs((1, 5, 7, 9, 10), 3):
            self.assert_same(least_probes(log), least_by_search(can_be, left))

    def test_single_numbers(self):
        for many, houses, wanted in (
            (1, 0, 0), (1, 8, 0), (24, 0, 0), (24, 1, 1), (24, 4, 4), (24, 5, 5), (24, 6, 5), (24, 8, 5),
            (16, 8, 4), (17, 8, 5), (2, 8, 1), (3, 8, 2), (4, 8, 2), (5, 8, 3), (5, 2, 2), (8, 3, 3),
        ):
            self.assert_same(least_probes(wide_house_log(many, houses)), wanted)

    def test_known_widths(self):
        for log in (
            HouseLog(Widths(7), 0), HouseLog(Widths(7), 3), HouseLog(WIDTHS, 0),
            HouseLog(WIDTHS, 1, (40, 20)), HouseLog(WIDTHS, 5, (40, None)), HouseLog(WIDTHS, 5, (40, 1)),
        ):
            self.assert_same(least_probes(log), 0)
            self.assertIsNone(told_probe(log))


class ToldProbe(HouseCase):
    def test_few_houses(self):
        # As many houses as halvings or fewer: the greatest width that can be.
        for many, houses in ((2, 1), (3, 1), (3, 2), (24, 1), (24, 5), (16, 4), (17, 5)):
            self.assert_same(told_probe(wide_house_log(many, houses)), many)
        self.assert_same(told_probe(HouseLog(WIDTHS, 2, (40, 30))), 30)

    def test_many_houses(self):
        # The probe with half of the widths that can be below it.
        for many, houses, wanted in ((2, 2, 2), (3, 3, 2), (4, 3, 3), (5, 4, 3), (24, 6, 13), (16, 5, 9), (17, 8, 9)):
            self.assert_same(told_probe(wide_house_log(many, houses)), wanted)
        self.assert_same(told_probe(HouseLog(WIDTHS, 3)), 30)
        self.assert_same(told_probe(HouseLog(WIDTHS, 3, (20, None))), 30)

    def test_all_house_logs(self):
        for _, can_be, left, log in all_house_logs((1, 5, 7, 9, 10), 4):
            halvings = next(q for q in range(9) if 2 ** q >= len(can_be))
            if len(can_be) == 1:
                wanted = None
            elif left <= halvings:
                wanted = can_be[-1]
            else:
                wanted = next(
                    probe
                    for probe in useful_among((1, 5, 7, 9, 10), can_be)
                    if len([width for width in can_be if width < probe]) == len(can_be) // 2
                )
            self.assert_same(told_probe(log), wanted)

    def test_again_and_again(self):
        for many in range(1, 12):
            for houses in range(9):
                log = wide_house_log(many, houses)
                self.assertLessEqual(self.most_sent(log, {}), least_probes(log))
        self.assertEqual(self.most_sent(wide_house_log(24, 5), {}), 5)
        self.assertEqual(self.most_sent(wide_house_log(24, 8), {}), 5)

    def most_sent(self, log, found):
        """How often told_probe is sent at most, whatever is told."""
        probe = told_probe(log)
        if probe is None:
            return 0
        can_be = tuple(log.can_be())
        key = can_be, log.houses_left()
        if key not in found:
            found[key] = 1 + max(self.most_sent(log.told(probe, told), found) for told in tellings(can_be, probe))
        return found[key]


if __name__ == "__main__":
    unittest.main()
