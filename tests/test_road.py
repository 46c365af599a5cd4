"""[2] and [6]: Road."""

import unittest

from helper import ParcelCase
from widestparcels.errors import BadNumber
from widestparcels.road import Road
from widestparcels.widths import Widths


class MakingRoads(ParcelCase):
    def test_attributes(self):
        widths = Widths(10, 20, 30)
        road = Road(widths, 2)
        self.assertEqual(road.widths, widths)
        self.assertIs(type(road.widths), Widths)
        self.assert_same(road.losses, 2)
        self.assertIs(road.in_a_row, False)

    def test_in_a_row_is_given_by_name(self):
        widths = Widths(10, 20)
        self.assertIs(Road(widths, 1, in_a_row=True).in_a_row, True)
        self.assertIs(Road(widths, 1, in_a_row=False).in_a_row, False)
        with self.assertRaises(TypeError):
            Road(widths, 1, True)

    def test_arguments_by_name(self):
        road = Road(widths=Widths(10), losses=3, in_a_row=True)
        self.assertEqual(road.widths.numbers, (10,))
        self.assertEqual((road.losses, road.in_a_row), (3, True))

    def test_losses(self):
        widths = Widths(10, 20)
        for losses in (0, 1, 2, 3):
            for in_a_row in (False, True):
                self.assert_same(Road(widths, losses, in_a_row=in_a_row).losses, losses)

    def test_wrong_losses(self):
        widths = Widths(10, 20)
        for losses in (-1, 4, 100, -(10 ** 30), True, False, None, "", "1", 1.0, (1,), [1]):
            for in_a_row in (False, True):
                with self.subTest(losses=losses, in_a_row=in_a_row):
                    wanted = {"what": "losses", "value": losses}
                    self.assert_told(BadNumber, wanted, Road, widths, losses, in_a_row=in_a_row)
        self.assertEqual(widths.numbers, (10, 20))


class ComparingRoads(ParcelCase):
    def test_equal(self):
        self.assertIs(Road(Widths(10, 20), 1) == Road(Widths(10, 20), 1), True)
        self.assertIs(Road(Widths(10, 20), 1) != Road(Widths(10, 20), 1), False)
        self.assertIs(Road(Widths(10, 20), 1) == Road(Widths(10, 20), 1, in_a_row=False), True)
        self.assertIs(Road(Widths(10), 0, in_a_row=True) == Road(Widths(10), 0, in_a_row=True), True)

    def test_one_of_the_three_differs(self):
        road = Road(Widths(10, 20), 1)
        others = (
            Road(Widths(10, 21), 1),
            Road(Widths(10), 1),
            Road(Widths(10, 20), 0),
            Road(Widths(10, 20), 2),
            Road(Widths(10, 20), 1, in_a_row=True),
        )
        for other in others:
            self.assertIs(road == other, False)
            self.assertIs(other == road, False)
            self.assertIs(road != other, True)

    def test_other_kinds_are_not_equal(self):
        road = Road(Widths(10, 20), 1)
        for other in (None, 1, "road", (10, 20), road.widths, (road.widths, 1, False)):
            self.assertIs(road == other, False)
            self.assertIs(road != other, True)


class Probes(ParcelCase):
    def test_of_one_width(self):
        self.assert_same(Road(Widths(10), 1).probes(), [])

    def test_of_several_widths(self):
        self.assert_same(Road(Widths(10, 20), 0).probes(), [20])
        self.assert_same(Road(Widths(9, 10, 100), 3, in_a_row=True).probes(), [10, 100])
        self.assert_same(Road(Widths(*range(1, 25)), 1).probes(), list(range(2, 25)))

    def test_the_list_may_be_changed(self):
        road = Road(Widths(10, 20, 30), 1)
        probes = road.probes()
        probes.append(40)
        probes[0] = 5
        self.assertEqual(road.probes(), [20, 30])
        self.assertIsNot(road.probes(), road.probes())
        self.assertEqual(road.widths.numbers, (10, 20, 30))


if __name__ == "__main__":
    unittest.main()
