"""[35]: plans as texts."""

import random
import unittest

from helper import ParcelCase
from plain import KINDS, rows, wide_log
from widestparcels.costs import Prices
from widestparcels.errors import BadText
from widestparcels.plans import told_plan
from widestparcels.texts import read_plan, write_plan

NO_NUMBERS = ("", "x", "-1", "+1", "01", "00", "020", "1.0", "0x1", "1_0", "1000000", "0000000", "1234567")


class TextCase(ParcelCase):
    def assert_bad(self, line, text):
        with self.subTest(text=text):
            self.assert_told(BadText, {"line": line}, read_plan, text)


class Writing(TextCase):
    def test_single_plans(self):
        self.assert_same(write_plan({}), "")
        self.assert_same(write_plan({(3,): 1, (2,): 1}), "2 1\n3 1\n")
        self.assert_same(write_plan({(2, 1, 0, 10): 12}), "2,1,0,10 12\n")

    def test_ascending_order_of_the_rows(self):
        # By numbers, not by signs, and a row before those that begin with it.
        plan = {(10, 0): 1, (9, 0): 2, (2,): 3, (2, 0): 4, (0, 24): 5, (1, 10, 3): 6, (1, 9, 4): 7, (1,): 8, (24,): 9}
        wanted = "0,24 5\n1 8\n1,9,4 7\n1,10,3 6\n2 3\n2,0 4\n9,0 2\n10,0 1\n24 9\n"
        self.assert_same(write_plan(plan), wanted)

    def test_the_order_of_the_plan_does_not_matter(self):
        chance = random.Random(35)
        plan = {row: sum(row) for length in (1, 2, 3) for row in rows(length, 5)}
        wanted = "".join(f"{','.join(map(str, row))} {sum(row)}\n" for row in sorted(plan))
        for _ in range(5):
            keys = list(plan)
            chance.shuffle(keys)
            self.assert_same(write_plan({row: plan[row] for row in keys}), wanted)

    def test_numbers_below(self):
        plan = {(3,): 0, (4,): 999999, (5,): 24, (6,): 6}
        self.assert_same(write_plan(plan), "3 0\n4 999999\n5 24\n6 6\n")
        self.assertEqual(read_plan(write_plan(plan)), plan)

    def test_written_and_read_back(self):
        for losses, in_a_row in KINDS:
            for many in (1, 2, 6, 24):
                plan = told_plan(wide_log(many, losses, in_a_row), Prices(3, 2))
                found = read_plan(write_plan(plan))
                self.assert_same(found, plan)
                self.assertEqual(list(found), sorted(plan))
                self.assertEqual(write_plan(found), write_plan(plan))

    def test_all_rows(self):
        plan = {row: sum(row) - 1 for length in (1, 2, 3, 4) for row in rows(length, 6)}
        self.assertEqual(read_plan(write_plan(plan)), plan)

    def test_the_plan_stays_as_it_was(self):
        plan = {(3,): 1, (2,): 1, (9, 1): 4}
        write_plan(plan)
        self.assertEqual(list(plan.items()), [((3,), 1), ((2,), 1), ((9, 1), 4)])


class Reading(TextCase):
    def test_empty_text(self):
        self.assert_same(read_plan(""), {})

    def test_single_plans(self):
        found = read_plan("2,1 1\n3,0 2\n")
        self.assert_same(found, {(2, 1): 1, (3, 0): 2})
        for row, below in found.items():
            self.assertEqual([type(number) for number in (*row, below)], [int, int, int])

    def test_lines_in_another_order(self):
        found = read_plan("3,0 2\n0,0,0,24 23\n2,1 1\n1 0\n")
        self.assertEqual(list(found.items()), [((3, 0), 2), ((0, 0, 0, 24), 23), ((2, 1), 1), ((1,), 0)])

    def test_numbers_below_of_any_size(self):
        self.assert_same(read_plan("3 0\n4 4\n5 24\n6 999999\n"), {(3,): 0, (4,): 4, (5,): 24, (6,): 999999})

    def test_a_row_for_the_second_time(self):
        self.assert_bad(2, "3,0 2\n3,0 2\n")
        self.assert_bad(3, "3,0 2\n2,1 1\n3,0 1\nx\n")
        self.assert_same(read_plan("3 2\n3,0 2\n3,0,0 2\n"), {(3,): 2, (3, 0): 2, (3, 0, 0): 2})

    def test_wrong_rows(self):
        for row in (
            "0", "0,0", "25", "24,1", "0,0,0,25", "1,1,1,1,1", "0,0,0,0,1", "100000", "12,12,1", ",", "1,", ",1",
            "1,,1", "1;1", "(1,1)", "(1,)", "1,1,", "row",
        ):
            self.assert_bad(1, f"{row} 1\n")
            self.assert_bad(2, f"2,1 1\n{row} 1\n3,0 2\n")
        for number in NO_NUMBERS:
            self.assert_bad(1, f"{number},1 1\n")
            self.assert_bad(1, f"1,{number} 1\n")
            self.assert_bad(1, f"{number} 1\n")

    def test_wrong_numbers_below(self):
        for number in NO_NUMBERS:
            self.assert_bad(1, f"2,1 {number}\n")
            self.assert_bad(2, f"3,0 2\n2,1 {number}\n")

    def test_other_forms(self):
        for line in (
            "", " ", "  ", "2,1", "2,1 ", " 2,1 1", "2,1 1 ", "2,1  1", "2,1 1 1", "2, 1 1", "2,1\t1", "1", "2,1,1",
            "2,1:1", "2 ,1 1", "x",
        ):
            self.assert_bad(1, line + "\n")
            self.assert_bad(2, "3,0 2\n" + line + "\n")
            self.assert_bad(2, "3,0 2\n" + line + "\nx\n")

    def test_no_last_newline(self):
        self.assert_bad(1, "2,1 1")
        self.assert_bad(2, "2,1 1\n3,0 2")
        self.assert_bad(3, "2,1 1\n3,0 2\nx")
        self.assert_bad(3, "2,1 1\n3,0 2\n ")
        self.assert_bad(1, "x\n3,0 2")
        self.assert_bad(1, "x")

    def test_the_first_of_several_wrong_lines(self):
        lines = ["2,1 1", "3,0 2", "2 1", "1,1 1"]
        for first in range(4):
            for second in range(first + 1, 4):
                for wrong in ("x", "25 1", "2,1 -1", ""):
                    texts = list(lines)
                    texts[first] = texts[second] = wrong
                    self.assert_bad(first + 1, "".join(line + "\n" for line in texts))

    def test_the_plan_may_be_changed(self):
        read_plan("2,1 1\n").clear()
        self.assertEqual(read_plan("2,1 1\n"), {(2, 1): 1})


if __name__ == "__main__":
    unittest.main()
