"""[34]: logs as texts."""

import random
import unittest

from helper import ParcelCase
from plain import KINDS, all_logs
from widestparcels.errors import BadNumber, BadOrder, BadPair, BadText, TooMany
from widestparcels.log import Log
from widestparcels.road import Road
from widestparcels.texts import read_log, write_log
from widestparcels.widths import Widths

LINES = ["widths 1 20 30", "losses 1 row", "probe 20 yes", "probe 30 no"]
LOG = Log(Road(Widths(1, 20, 30), 1, in_a_row=True), (20, True), (30, False))
NO_NUMBERS = ("", "x", "-1", "+1", "01", "00", "020", "1.0", "1,2", "0x1", "1_0", "1000000", "0000000", "1234567")


def text_of(lines):
    return "".join(line + "\n" for line in lines)


class TextCase(ParcelCase):
    def assert_bad(self, line, text):
        with self.subTest(text=text):
            self.assert_told(BadText, {"line": line}, read_log, text)

    def assert_bad_line(self, at, line):
        """The line at the place is wrong, alone and beside another one that is wrong behind it."""
        lines = [*LINES[:at], line, *LINES[at + 1:]]
        self.assert_bad(at + 1, text_of(lines))
        self.assert_bad(at + 1, text_of([*lines, "x"]))
        self.assert_bad(at + 1, text_of([*lines, *LINES]))
        if line != "":
            self.assert_bad(at + 1, text_of(lines)[:-1])


class Writing(TextCase):
    def test_single_logs(self):
        self.assert_same(write_log(LOG), "widths 1 20 30\nlosses 1 row\nprobe 20 yes\nprobe 30 no\n")
        self.assert_same(write_log(Log(Road(Widths(7), 0))), "widths 7\nlosses 0 all\n")
        log = Log(Road(Widths(99999, 100000), 3), (100000, False))
        self.assert_same(write_log(log), "widths 99999 100000\nlosses 3 all\nprobe 100000 no\n")

    def test_impossible_logs(self):
        log = Log(Road(Widths(1, 2), 0), (2, False), (2, True))
        self.assert_same(write_log(log), "widths 1 2\nlosses 0 all\nprobe 2 no\nprobe 2 yes\n")
        self.assertEqual(read_log(write_log(log)), log)

    def test_written_and_read_back(self):
        for log in all_logs((1, 5, 100000), 2):
            self.assertEqual(read_log(write_log(log)), log)

    def test_hundred_pairs(self):
        chance = random.Random(34)
        for losses, in_a_row in KINDS:
            road = Road(Widths(*range(1, 25)), losses, in_a_row=in_a_row)
            for many in (0, 1, 99, 100):
                pairs = [(chance.randint(2, 24), chance.random() < 0.5) for _ in range(many)]
                log = Log(road, *pairs)
                text = write_log(log)
                self.assertEqual(text.count("\n"), 2 + many)
                found = read_log(text)
                self.assertIs(type(found), Log)
                self.assertEqual(found, log)
                self.assertIs(found.road.in_a_row, in_a_row)
                self.assertTrue(all(answered is True or answered is False for _, answered in found))


class Reading(TextCase):
    def test_single_logs(self):
        self.assertEqual(read_log(text_of(LINES)), LOG)
        self.assertEqual(read_log("widths 7\nlosses 0 all\n"), Log(Road(Widths(7), 0)))
        found = read_log("widths 5 6\nlosses 3 all\nprobe 6 no\nprobe 6 yes\n")
        self.assert_same(found.pairs, ((6, False), (6, True)))
        self.assert_same(found.road.losses, 3)
        self.assertIs(found.road.in_a_row, False)

    def test_wrong_widths_lines(self):
        for line in (
            "", " ", "x", "widths", "widths ", "width 1 20 30", "Widths 1 20 30", "1 20 30", " widths 1 20 30",
            "widths 1 20 30 ", "widths  1 20 30", "widths 1  20 30", "widths\t1", "widths 1 20 yes", "widths 1,20",
            "losses 1 row", "probe 20 yes", "widthsx 1", "widths 1 20 30 x",
        ):
            self.assert_bad_line(0, line)
        for number in NO_NUMBERS:
            self.assert_bad_line(0, f"widths {number} 20 30")
            self.assert_bad_line(0, f"widths 1 20 {number}")

    def test_wrong_losses_lines(self):
        for line in (
            "", " ", "x", "losses", "losses 1", "losses row", "losses 1 ", "losses 1 row ", " losses 1 row",
            "losses  1 row", "losses 1  row", "loss 1 row", "losses 1 Row", "losses 1 rows", "losses 1 yes",
            "losses row 1", "losses 1 row all", "losses 1 1", "widths 1 20 30", "probe 20 yes", "losses all all",
        ):
            self.assert_bad_line(1, line)
        for number in NO_NUMBERS:
            self.assert_bad_line(1, f"losses {number} all")

    def test_wrong_probe_lines(self):
        for at in (2, 3):
            for line in (
                "", " ", "x", "probe", "probe 20", "probe yes", "probe 20 ", "probe 20 yes ", " probe 20 yes",
                "probe  20 yes", "probe 20  yes", "prob 20 yes", "tell 20 yes", "probe 20 Yes", "probe 20 y",
                "probe 20 True", "probe 20 row", "probe yes 20", "probe 20 yes no", "probe 20 30",
                "widths 1 20 30", "losses 1 row", "losses 1 all",
            ):
                self.assert_bad_line(at, line)
            for number in NO_NUMBERS:
                self.assert_bad_line(at, f"probe {number} yes")

    def test_lines_at_wrong_places(self):
        self.assert_bad(1, text_of([LINES[1], LINES[0], *LINES[2:]]))
        self.assert_bad(2, text_of([LINES[0], *LINES[2:], LINES[1]]))
        self.assert_bad(2, text_of([LINES[0], *LINES]))
        self.assert_bad(3, text_of([*LINES[:2], LINES[1], *LINES[2:]]))
        self.assert_bad(1, text_of(LINES[1:]))
        self.assert_bad(1, text_of(LINES[2:]))

    def test_empty_lines(self):
        for at in range(5):
            self.assert_bad(at + 1, text_of([*LINES[:at], "", *LINES[at:]]))

    def test_two_faults_at_once(self):
        for first in range(4):
            for second in range(first + 1, 4):
                lines = list(LINES)
                lines[first] = lines[second] = "x"
                self.assert_bad(first + 1, text_of(lines))

    def test_no_last_newline(self):
        for many in range(1, 5):
            self.assert_bad(many, text_of(LINES[:many])[:-1])
        self.assert_bad(5, text_of(LINES) + "x")
        self.assert_bad(5, text_of(LINES) + "probe 20 yes")
        self.assert_bad(5, text_of(LINES) + " ")
        # An earlier line that is wrong is told instead.
        self.assert_bad(2, "widths 1 20 30\nx\nprobe 20 yes")
        self.assert_bad(1, "x\nlosses 1 row")

    def test_missing_lines(self):
        self.assert_bad(1, "")
        self.assert_bad(2, "widths 1 20 30\n")
        self.assert_bad(2, "widths 5\n")
        self.assert_bad(1, "\n")
        self.assert_bad(1, "x\n")
        self.assert_bad(1, "losses 1 row\n")

    def test_numbers_of_six_digits(self):
        wanted = {"what": "width", "value": 999999}
        self.assert_told(BadNumber, wanted, read_log, "widths 1 999999\nlosses 1 row\n")
        self.assert_bad(1, "widths 1 1000000\nlosses 1 row\n")
        wanted = {"what": "losses", "value": 100000}
        self.assert_told(BadNumber, wanted, read_log, "widths 1\nlosses 100000 row\n")
        self.assert_told(BadPair, {"place": 0}, read_log, "widths 1\nlosses 1 row\nprobe 999999 no\n")


class ErrorsOfRightLines(TextCase):
    def test_widths(self):
        for numbers, kind, attributes in (
            ("0", BadNumber, {"what": "width", "value": 0}),
            ("1 100001", BadNumber, {"what": "width", "value": 100001}),
            ("1 20 20", BadOrder, {"place": 2}),
            ("20 1", BadOrder, {"place": 1}),
            (" ".join(str(number) for number in range(1, 26)), BadNumber, {"what": "widths", "value": 25}),
        ):
            # They are told before the errors of Road and Log.
            for more in ("losses 0 all\n", "losses 4 all\n", "losses 4 row\nprobe 7 no\n"):
                self.assert_told(kind, attributes, read_log, f"widths {numbers}\n{more}")

    def test_losses(self):
        for losses in (4, 5, 999999):
            for more in ("", "probe 1 yes\n", "probe 20 no\nprobe 21 no\n"):
                wanted = {"what": "losses", "value": losses}
                self.assert_told(BadNumber, wanted, read_log, f"widths 1 20\nlosses {losses} all\n{more}")

    def test_pairs(self):
        for probe in (0, 1, 2, 21, 999999):
            text = f"widths 1 20\nlosses 0 all\nprobe 20 yes\nprobe {probe} no\nprobe 0 no\n"
            self.assert_told(BadPair, {"place": 1}, read_log, text)

    def test_101_pairs(self):
        lines = ["widths 1 20", "losses 0 all", *(["probe 20 yes"] * 101)]
        self.assert_told(TooMany, {"limit": 100}, read_log, text_of(lines))
        self.assert_told(BadPair, {"place": 101}, read_log, text_of([*lines, "probe 1 yes"]))
        self.assertEqual(len(read_log(text_of(lines[:-1]))), 100)

    def test_a_wrong_line_is_told_before_them(self):
        for text in (
            "widths 0\nlosses 4 all\nprobe x yes\n",
            "widths 20 1\nlosses 1 row\nprobe 1 maybe\n",
            "widths 1 20\nlosses 4 row\nprobe 1 yes",
        ):
            self.assert_bad(3, text)
        lines = ["widths 1 20", "losses 0 all", *(["probe 20 yes"] * 101), "x"]
        self.assert_bad(104, text_of(lines))


if __name__ == "__main__":
    unittest.main()
