"""[11], [12] and [13]: rows, what comes of them, and which sits in which."""

import itertools
import unittest

from helper import ParcelCase
from plain import all_logs, needs_in, rows
from widestparcels.errors import BadNumber, BadRow, Unlike
from widestparcels.rows import answered_row, check_row, is_row, silent_row, sits_in

WRONG_ROWS = (
    (),
    (0,),
    (0, 0, 0, 0),
    (25,),
    (24, 1),
    (10, 10, 4, 1),
    (1, 0, 0, 0, 0),
    (1, 1, 1, 1, 1),
    (-1, 2),
    (2, -1),
    (25, -1),
    (0, True),
    (1, True),
    (False, 1),
    (True,),
    (1, None),
    (None,),
    (1, "1"),
    (1.0,),
    ((1,),),
    [1],
    [3, 0],
    [2, 1, 0, 0],
    [],
    None,
    1,
    True,
    "1",
    {1: 1},
)
RIGHT_ROWS = ((1,), (24,), (0, 1), (1, 0), (0, 0, 0, 1), (24, 0, 0, 0), (0, 0, 0, 24), (6, 6, 6, 6), (0, 12, 0, 12))


class WhatIsARow(ParcelCase):
    def test_right_rows(self):
        for row in RIGHT_ROWS:
            self.assertIs(is_row(row), True, row)
            self.assertIs(check_row(row), row)

    def test_all_rows_of_small_numbers(self):
        for length in range(6):
            for row in itertools.product(range(-1, 4), repeat=length):
                right = 1 <= length <= 4 and min(row) >= 0 and sum(row) >= 1
                self.assertIs(is_row(row), right, row)

    def test_sums(self):
        for length in range(1, 5):
            for total in (0, 1, 2, 23, 24, 25, 100):
                for place in range(length):
                    row = (0,) * place + (total,) + (0,) * (length - place - 1)
                    self.assertIs(is_row(row), 1 <= total <= 24, row)

    def test_wrong_rows(self):
        for row in WRONG_ROWS:
            with self.subTest(row=row):
                self.assertIs(is_row(row), False)
                self.assert_told(BadRow, {"value": row}, check_row, row)

    def test_the_very_value_is_kept(self):
        value = [1, 2]
        with self.assertRaises(BadRow) as caught:
            check_row(value)
        self.assertIs(caught.exception.value, value)


class AfterAProbe(ParcelCase):
    def test_against_the_logs_themselves(self):
        for log in all_logs((1, 5, 7, 9), 3):
            if log.is_impossible():
                continue
            row = log.row()
            for at, probe in enumerate(log.useful()):
                yes, no = log.told(probe, True), log.told(probe, False)
                self.assert_same(answered_row(row, at + 1, in_a_row=log.road.in_a_row), yes.row())
                self.assert_same(silent_row(row, at + 1), no.row())

    def test_against_the_single_widths(self):
        for length in range(1, 5):
            for row in rows(length, 6):
                needs = needs_in(row)
                for below in range(1, len(needs)):
                    rest = needs[below:]
                    more = needs[:below] + tuple(need + 1 for need in rest)
                    self.assertEqual(answered_row(row, below), counted(rest, length))
                    self.assertEqual(answered_row(row, below, in_a_row=False), counted(rest, length))
                    self.assertEqual(answered_row(row, below, in_a_row=True), counted((0,) * len(rest), length))
                    self.assertEqual(silent_row(row, below), counted(more, length))

    def test_single_rows(self):
        self.assert_same(answered_row((2, 1), 1), (1, 1))
        self.assert_same(silent_row((2, 1), 1), (1, 1))
        self.assert_same(silent_row((3, 0), 2), (2, 1))
        self.assert_same(answered_row((2, 0, 3), 3), (0, 0, 2))
        self.assert_same(answered_row((2, 0, 3), 3, in_a_row=True), (2, 0, 0))
        self.assert_same(silent_row((2, 0, 3), 3), (2, 0, 1))
        self.assert_same(silent_row((1, 2, 3, 4), 2), (1, 1, 1, 3))
        self.assert_same(silent_row((24,), 23), (23,))
        self.assert_same(answered_row((24,), 1), (23,))

    def test_wrong_numbers_below(self):
        for row in ((3,), (2, 1), (0, 0, 3), (1, 0, 1, 1)):
            for below in (0, -1, 3, 4, 10 ** 30, True, False, None, "1", 1.0, (1,)):
                self.assert_bad_below(row, below)

    def test_a_row_of_sum_one_has_no_probe(self):
        for row in ((1,), (0, 1), (0, 0, 0, 1)):
            for below in (0, 1, 2, True):
                self.assert_bad_below(row, below)

    def assert_bad_below(self, row, below):
        with self.subTest(row=row, below=below):
            wanted = {"what": "below", "value": below}
            self.assert_told(BadNumber, wanted, answered_row, row, below)
            self.assert_told(BadNumber, wanted, answered_row, row, below, in_a_row=True)
            self.assert_told(BadNumber, wanted, silent_row, row, below)

    def test_wrong_rows_are_told_first(self):
        for row in WRONG_ROWS:
            for below in (1, 0, True, None):
                with self.subTest(row=row, below=below):
                    self.assert_told(BadRow, {"value": row}, answered_row, row, below)
                    self.assert_told(BadRow, {"value": row}, answered_row, row, below, in_a_row=True)
                    self.assert_told(BadRow, {"value": row}, silent_row, row, below)

    def test_in_a_row_is_given_by_name(self):
        with self.assertRaises(TypeError):
            answered_row((3, 0), 1, True)
        self.assertEqual(answered_row(row=(3, 0), below=1), (2, 0))
        self.assertEqual(silent_row(row=(3, 0), below=1), (1, 2))


def counted(needs, length):
    return tuple(needs.count(need) for need in range(length))


def finds_seats(first, second):
    """Whether some choice of seats, in order, suits all widths of the first row."""
    guests, seats = needs_in(first), needs_in(second)
    for chosen in itertools.combinations(seats, len(guests)):
        if all(seat <= guest for seat, guest in zip(chosen, guests)):
            return True
    return False


class Sitting(ParcelCase):
    def test_against_a_search_for_seats(self):
        for length, most in ((1, 6), (2, 5), (3, 4), (4, 3)):
            for first in rows(length, most):
                for second in rows(length, most):
                    self.assertIs(sits_in(first, second), finds_seats(first, second), (first, second))

    def test_single_rows(self):
        self.assertIs(sits_in((0, 2), (1, 1)), True)
        self.assertIs(sits_in((1, 1), (0, 2)), False)
        self.assertIs(sits_in((1, 1), (1, 1)), True)
        self.assertIs(sits_in((0, 3), (2, 0)), False)
        self.assertIs(sits_in((0, 0, 0, 24), (24, 0, 0, 0)), True)
        self.assertIs(sits_in((24, 0, 0, 0), (0, 0, 0, 24)), False)

    def test_rows_of_different_lengths(self):
        for first, second in (((1,), (1, 0)), ((1, 0), (1,)), ((1, 0, 0), (2, 0, 0, 0)), ((24, 0), (0, 1, 0))):
            self.assert_told(Unlike, {}, sits_in, first, second)

    def test_wrong_rows(self):
        for row in WRONG_ROWS:
            for right in ((1,), (2, 1)):
                with self.subTest(row=row):
                    self.assert_told(BadRow, {"value": row}, sits_in, row, right)
                    self.assert_told(BadRow, {"value": row}, sits_in, right, row)

    def test_the_first_wrong_row_is_told(self):
        self.assert_told(BadRow, {"value": (0, 0)}, sits_in, (0, 0), [1])
        self.assert_told(BadRow, {"value": [1]}, sits_in, [1], (0, 0))


if __name__ == "__main__":
    unittest.main()
