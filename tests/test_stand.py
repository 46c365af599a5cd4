"""[26] and [29]: roads with given houses, what probes bring there, and how the width is found."""

import unittest

from helper import ParcelCase
from plain_houses import first_told, house_log, stands, width_of
from widestparcels.errors import BadNumber
from widestparcels.houses import HouseLog, least_probes, told_probe
from widestparcels.stand import find, through, true_width
from widestparcels.widths import Widths

WIDTHS = Widths(1, 20, 30, 40)
NUMBERS = (1, 5, 7, 9)
NO_HOUSES = (40, 0, 2, 19, 41, -20, 10 ** 30, True, False, None, "20", 20.0, (20,), [20])
NO_NUMBERS = (True, False, None, "1", 1.0, (1,), [1])


class Through(ParcelCase):
    def test_the_first_narrower_house_tells(self):
        self.assert_same(through(WIDTHS, [30, 20, 1], 40), 30)
        self.assert_same(through(WIDTHS, [30, 20, 1], 30), 20)
        self.assert_same(through(WIDTHS, [30, 20, 1], 20), 1)
        self.assert_same(through(WIDTHS, [1, 20, 30], 40), 1)
        self.assert_same(through(WIDTHS, [20, 1, 30], 30), 20)

    def test_answered(self):
        self.assertIsNone(through(WIDTHS, [30, 20, 1], 1))
        self.assertIsNone(through(WIDTHS, [30, 20], 20))
        for probe in (1, 20, 30, 40):
            self.assertIsNone(through(WIDTHS, [], probe))
        self.assertIsNone(through(Widths(5), [], 5))

    def test_houses_of_one_width(self):
        self.assert_same(through(WIDTHS, [30, 20, 20, 30], 30), 20)
        self.assert_same(through(WIDTHS, [20, 20], 40), 20)
        self.assertIsNone(through(WIDTHS, [20, 20], 20))

    def test_against_the_words(self):
        for stand in stands(NUMBERS, 3):
            for probe in NUMBERS:
                self.assert_same(through(Widths(*NUMBERS), list(stand), probe), first_told(stand, probe))
                self.assert_same(through(Widths(*NUMBERS), stand, probe), first_told(stand, probe))

    def test_wrong_probes(self):
        for stand in ([], [30, 1]):
            for probe in (0, 2, 41, -1, 10 ** 30, True, False, None, "20", 20.0, (20,), [20]):
                self.assert_told(BadNumber, {"what": "probe", "value": probe}, through, WIDTHS, stand, probe)


class TrueWidth(ParcelCase):
    def test_against_the_words(self):
        for stand in stands(NUMBERS, 3):
            self.assert_same(true_width(Widths(*NUMBERS), list(stand)), width_of(NUMBERS, stand))
            self.assert_same(true_width(Widths(*NUMBERS), stand), width_of(NUMBERS, stand))

    def test_single_stands(self):
        self.assert_same(true_width(WIDTHS, []), 40)
        self.assert_same(true_width(WIDTHS, [30]), 30)
        self.assert_same(true_width(WIDTHS, [30, 20, 30]), 20)
        self.assert_same(true_width(WIDTHS, [1, 20]), 1)
        self.assert_same(true_width(WIDTHS, [30] * 7 + [20]), 20)
        self.assert_same(true_width(Widths(7), ()), 7)


def calls():
    """Each function with a stand, called with the stand alone left open."""
    return (
        lambda stand: through(WIDTHS, stand, 20),
        lambda stand: true_width(WIDTHS, stand),
        lambda stand: find(WIDTHS, 8, stand),
    )


class WrongStands(ParcelCase):
    def test_wrong_houses_at_each_place(self):
        for house in NO_HOUSES:
            for call in calls():
                for stand in ([house], [house, 20], [20, house, 30], [30] * 7 + [house]):
                    self.assert_told(BadNumber, {"what": "house", "value": house}, call, stand)
                    self.assert_told(BadNumber, {"what": "house", "value": house}, call, tuple(stand))

    def test_no_house_can_stand_on_a_road_of_one_width(self):
        wanted = {"what": "house", "value": 7}
        self.assert_told(BadNumber, wanted, through, Widths(7), [7], 7)
        self.assert_told(BadNumber, wanted, true_width, Widths(7), [7])
        self.assert_told(BadNumber, wanted, find, Widths(7), 1, [7])

    def test_the_first_of_several_wrong_houses(self):
        for call in calls():
            self.assert_told(BadNumber, {"what": "house", "value": 41}, call, [20, 41, 40, None])
            self.assert_told(BadNumber, {"what": "house", "value": 40}, call, [40, 41])
            self.assert_told(BadNumber, {"what": "house", "value": True}, call, [1, True, None])

    def test_the_number_of_houses(self):
        for call in calls():
            for many in (9, 10, 30):
                self.assert_told(BadNumber, {"what": "houses", "value": many}, call, [20] * many)
                self.assert_told(BadNumber, {"what": "houses", "value": many}, call, [40] * many)
            call([20] * 8)
            call([])

    def test_the_probe_is_checked_after_the_stand(self):
        for probe in (0, True, None):
            self.assert_told(BadNumber, {"what": "house", "value": 40}, through, WIDTHS, [20, 40], probe)
            self.assert_told(BadNumber, {"what": "houses", "value": 9}, through, WIDTHS, [20] * 9, probe)

    def test_the_stand_stays_as_it_was(self):
        for call in calls():
            stand = [30, 1, 20, 1]
            call(stand)
            self.assertEqual(stand, [30, 1, 20, 1])


class Find(ParcelCase):
    def test_all_small_roads(self):
        for numbers in (NUMBERS, (1, 2, 3, 4, 5, 6, 7, 8), (3,), (3, 9)):
            widths = Widths(*numbers)
            for stand in stands(numbers, 3):
                for houses in range(len(stand), 6):
                    log = find(widths, houses, list(stand))
                    self.assertIs(type(log), HouseLog)
                    self.assertEqual([log.widths, log.houses], [widths, houses])
                    self.assert_same(log.known(), width_of(numbers, stand))
                    self.assertLessEqual(len(log), least_probes(HouseLog(widths, houses)))
                    self.assertEqual(log, find(widths, houses, stand))

    def test_it_sends_told_probe(self):
        for stand in stands(NUMBERS, 3):
            for houses in range(len(stand), 5):
                log = house_log(NUMBERS, houses)
                while told_probe(log) is not None:
                    log = log.told(told_probe(log), first_told(stand, told_probe(log)))
                self.assertEqual(find(Widths(*NUMBERS), houses, stand), log)

    def test_single_roads(self):
        self.assertEqual(find(WIDTHS, 2, [30, 20]).pairs, ((40, 30), (30, 20)))
        self.assertEqual(find(WIDTHS, 2, [20, 30]).pairs, ((40, 20), (20, None)))
        self.assertEqual(find(WIDTHS, 3, [20, 30]).pairs, ((30, 20), (20, None)))
        self.assertEqual(find(WIDTHS, 2, []).pairs, ((40, None),))
        self.assertEqual(find(WIDTHS, 0, []).pairs, ())
        self.assertEqual(find(Widths(5), 8, []).pairs, ())

    def test_eight_houses(self):
        widths = Widths(*range(1, 25))
        for stand in ([23, 22, 21, 20, 19, 18, 17, 16], [5] * 8, [23] * 8, [1, 2, 3, 4, 5, 6, 7, 8]):
            log = find(widths, 8, stand)
            self.assertEqual(log.known(), min(stand))
            self.assertLessEqual(len(log), 5)

    def test_more_houses_than_the_number_allows(self):
        for houses, stand in ((0, [20]), (1, [20, 20]), (2, [30, 20, 1]), (7, [1] * 8)):
            self.assert_told(BadNumber, {"what": "houses", "value": len(stand)}, find, WIDTHS, houses, stand)
        # Each house is checked before their number is compared with the greatest one.
        self.assert_told(BadNumber, {"what": "house", "value": 40}, find, WIDTHS, 1, [20, 40])
        self.assert_told(BadNumber, {"what": "house", "value": True}, find, WIDTHS, 0, [True])

    def test_wrong_numbers_of_houses_are_told_first(self):
        for houses in (-1, 9, 10 ** 30, *NO_NUMBERS):
            for stand in ([], [20], [40], [20] * 9, [True]):
                self.assert_told(BadNumber, {"what": "houses", "value": houses}, find, WIDTHS, houses, stand)


if __name__ == "__main__":
    unittest.main()
