"""[36] and [37]: the console."""

import unittest

from helper import ParcelCase
from plain import KINDS
from widestparcels.best import best_probes, extras, least_cost
from widestparcels.console import console
from widestparcels.costs import Prices
from widestparcels.log import Log
from widestparcels.road import Road
from widestparcels.widths import Widths

ROAD = Road(Widths(10, 20, 30, 40), 1)
PRICES = Prices(3, 2)
ALL = ["can", "cost", "spent", "best", "row", "sure 20", "sure 30", "sure 40", "table"]


def spoken(answered):
    return {True: "yes", False: "no", None: "open"}[answered]


def wanted_of(log, prices):
    """The answers to the lines of ALL, told by the log."""
    known = f"known {log.known()}"
    spent = sum(prices.answer if answered else prices.silence for _, answered in log)
    return [
        " ".join(str(width) for width in log.can_be()),
        str(least_cost(log, prices)),
        str(spent),
        " ".join(str(probe) for probe in best_probes(log, prices)) or known,
        ",".join(str(number) for number in log.row()),
        *[spoken(log.surely(probe)) for probe in (20, 30, 40)],
        "\n".join(str(probe).rjust(6) + str(extra).rjust(5) for probe, extra in extras(log, prices)) or known,
    ]


def lines_of(*pairs):
    return [f"tell {probe} {spoken(answered)}" for probe, answered in pairs]


class ConsoleCase(ParcelCase):
    def assert_answers(self, lines, wanted, road=ROAD, prices=PRICES):
        with self.subTest(lines=lines):
            self.assert_same(console(road, prices, lines), wanted)

    def assert_wrong(self, answer, line, *pairs):
        """Behind these pairs the line has this answer and changes nothing."""
        told = lines_of(*pairs)
        found = console(ROAD, PRICES, [*told, *ALL, line, *ALL])
        with self.subTest(line=line, pairs=pairs):
            self.assertEqual(found[:len(told)], ["done"] * len(told))
            found = found[len(told):]
            self.assertEqual(found[:len(ALL)], wanted_of(Log(ROAD, *pairs), PRICES))
            self.assertEqual(found[len(ALL)], answer)
            self.assertEqual(found[len(ALL) + 1:], found[:len(ALL)])
            # All that was told can be taken back, and nothing else.
            undone = console(ROAD, PRICES, [*told, line, *["undo"] * (len(told) + 1)])
            self.assertEqual(undone[len(told):], [answer, *["done"] * len(told), "nothing"])


class RightLines(ConsoleCase):
    def test_example(self):
        road = Road(Widths(10, 20, 30), 0)
        lines = ["best", "tell 20 yes", "table", "tell 30 no", "best"]
        wanted = ["20 30", "done", "    30    0", "done", "known 20"]
        self.assert_answers(lines, wanted, road, Prices.even())

    def test_no_lines(self):
        self.assert_answers([], [])

    def test_each_command(self):
        self.assert_answers(["can"], ["10 20 30 40"])
        self.assert_answers(["tell 20 yes", "can"], ["done", "20 30 40"])
        self.assert_answers(["tell 40 no", "tell 30 yes", "undo", "can"], ["done", "done", "done", "10 20 30 40"])
        self.assert_answers(["tell 40 no", "tell 40 no", "can", "row"], ["done", "done", "10 20 30", "3,0"])
        self.assert_answers(["spent", "tell 20 yes", "tell 40 no", "spent"], ["0", "done", "done", "5"])
        self.assert_answers(["row", "tell 20 no", "row"], ["4,0", "done", "1,3"])
        self.assert_answers(["cost"], ["9"], Road(Widths(10, 20, 30), 1), Prices(3, 3))
        self.assert_answers(["tell 40 yes", "tell 20 no", "sure 20", "sure 40"], ["done", "done", "yes", "yes"])
        self.assert_answers(["tell 20 no", "tell 20 no", "sure 20", "sure 40"], ["done", "done", "no", "no"])
        self.assert_answers(["sure 20", "sure 30"], ["open", "open"])

    def test_known_width(self):
        for lines in (["tell 40 yes"], ["tell 20 no", "tell 20 no"]):
            known = "known 40" if lines[0] == "tell 40 yes" else "known 10"
            wanted = ["done"] * len(lines) + [known, known, "0", known.split(" ")[1]]
            self.assert_answers([*lines, "best", "table", "cost", "can"], wanted)
        road = Road(Widths(7), 2)
        self.assert_answers(["best", "table", "row", "cost", "can"], ["known 7", "known 7", "1,0,0", "0", "7"], road)

    def test_all_commands_along_searches(self):
        for losses, in_a_row in KINDS:
            road = Road(Widths(10, 20, 30, 40), losses, in_a_row=in_a_row)
            for prices in (Prices.even(), Prices(3, 2), Prices(0, 1)):
                for pairs in (
                    [], [(20, True)], [(40, False)], [(30, False), (20, True)], [(40, True), (20, True)],
                    [(40, False), (20, True), (40, False), (30, True)],
                ):
                    lines = [*lines_of(*pairs), *ALL]
                    wanted = ["done"] * len(pairs) + wanted_of(Log(road, *pairs), prices)
                    self.assert_answers(lines, wanted, road, prices)

    def test_table_columns(self):
        road = Road(Widths(1, 20, 300, 4000, 50000, 100000), 0)
        wanted = "    20  100\n   300    0\n  4000    0\n 50000    0\n100000  100"
        self.assert_answers(["table"], [wanted], road, Prices(100, 100))

    def test_undo_again_and_again(self):
        lines = ["tell 20 yes", "tell 40 no", "undo", "undo", "spent", "undo", "tell 30 no", "undo", "undo"]
        wanted = ["done", "done", "done", "done", "0", "nothing", "done", "done", "nothing"]
        self.assert_answers(lines, wanted)

    def test_hundred_pairs(self):
        lines = ["tell 20 yes"] * 101 + ["spent", "undo", "tell 20 no", "tell 20 yes", "spent"]
        wanted = ["done"] * 100 + ["many", "300", "done", "done", "many", "299"]
        self.assert_answers(lines, wanted)


class WrongLines(ConsoleCase):
    def test_unknown(self):
        for line in (
            "", " ", "  ", " can", "  can", " tell 20 yes", "x", "Can", "CAN", "tel 20 yes", "tells 20 yes", "20",
            "yes", "known", "help", "best\n", "can\tcan", "undo,", "probe 20 yes", "x  y", "x ",
        ):
            self.assert_wrong("unknown", line)
            self.assert_wrong("unknown", line, (20, True))

    def test_form_of_lines_with_one_word(self):
        for word in ("undo", "can", "cost", "spent", "best", "row", "table"):
            for line in (word + " ", word + "  ", word + " 1", word + " x", word + " " + word):
                self.assert_wrong("form", line)
                self.assert_wrong("form", line, (20, True))

    def test_form_of_numbers(self):
        for number in ("x", "-20", "+20", "020", "00", "20.0", "1000000", "2000000", "0x14", "yes", "20,30", "2_0", "20\n"):
            self.assert_wrong("form", f"sure {number}")
            self.assert_wrong("form", f"tell {number} yes")
            self.assert_wrong("form", f"tell {number} no", (20, True))

    def test_form_of_tell_and_sure(self):
        for line in (
            "tell", "tell ", "tell 20", "tell 20 ", "tell  20 yes", "tell 20  yes", "tell 20 yes ", "tell 20 yes no",
            "tell 20 Yes", "tell 20 y", "tell 20 open", "tell 20 True", "tell 20 1", "tell yes 20", "tell 20 30",
            "tell 20 yes\n", "sure", "sure ", "sure 20 ", "sure  20", "sure 20 yes", "sure 20 30", "sure yes",
        ):
            self.assert_wrong("form", line)
            self.assert_wrong("form", line, (20, True), (40, False))

    def test_form_comes_before_the_other_answers(self):
        # No probe and no answer; nothing to undo; too many pairs; an impossible log.
        self.assert_wrong("form", "tell 10 maybe")
        self.assert_wrong("form", "sure 10 x")
        self.assert_wrong("form", "undo 1")
        self.assert_wrong("form", "tell 20 ", *[(20, True)] * 100)
        self.assert_wrong("form", "tell 20 No", (40, True), (20, False))

    def test_pair(self):
        for probe in (0, 1, 10, 19, 21, 50, 999999):
            for answer in ("yes", "no"):
                self.assert_wrong("pair", f"tell {probe} {answer}")
                self.assert_wrong("pair", f"tell {probe} {answer}", (20, True))
        # Before too many pairs, and before an impossible log.
        self.assert_wrong("pair", "tell 10 yes", *[(20, True)] * 100)
        self.assert_wrong("pair", "tell 10 no", (40, True), (20, False))

    def test_number(self):
        for probe in (0, 1, 10, 19, 21, 50, 999999):
            self.assert_wrong("number", f"sure {probe}")
            self.assert_wrong("number", f"sure {probe}", (20, True), (40, False))

    def test_many(self):
        self.assert_wrong("many", "tell 20 yes", *[(20, True)] * 100)
        self.assert_wrong("many", "tell 40 no", *[(20, True)] * 100)
        # Before an impossible log.
        self.assert_wrong("many", "tell 20 no", *[(20, True)] * 99, (20, False))

    def test_impossible(self):
        self.assert_wrong("impossible", "tell 20 no", (40, True), (20, False))
        self.assert_wrong("impossible", "tell 40 yes", (40, False), (40, False))

    def test_nothing(self):
        self.assert_wrong("nothing", "undo")
        self.assert_answers(["tell 20 yes", "undo", "undo", "can"], ["done", "done", "nothing", "10 20 30 40"])

    def test_wrong_lines_between_right_ones(self):
        lines = ["x", "tell 20 yes", "tell 10 yes", "undo 1", "can", "sure 10", "undo", "undo", "can", ""]
        wanted = ["unknown", "done", "pair", "form", "20 30 40", "number", "done", "nothing", "10 20 30 40", "unknown"]
        self.assert_answers(lines, wanted)

    def test_the_lines_stay_as_they_were(self):
        lines = ["x", "tell 20 yes", "", "undo", " can ", "table"]
        before = list(lines)
        console(ROAD, PRICES, lines)
        self.assertEqual(lines, before)

    def test_lists_and_tuples_of_lines(self):
        lines = ["x", "tell 20 yes", "", "undo", "undo", "can", "table"]
        self.assertEqual(console(ROAD, PRICES, tuple(lines)), console(ROAD, PRICES, lines))
        self.assert_same(console(ROAD, PRICES, ()), [])

    def test_each_call_starts_anew(self):
        console(ROAD, PRICES, ["tell 20 yes"])
        self.assert_answers(["can", "undo"], ["10 20 30 40", "nothing"])


if __name__ == "__main__":
    unittest.main()
