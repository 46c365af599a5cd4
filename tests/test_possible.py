"""[8], [9] and [10]: which widths a log can come of, and what a probe can still tell."""

import unittest

from helper import ParcelCase
from plain import all_logs, make_log, needs_of, possible, row_of
from widestparcels.errors import BadNumber, Impossible

NUMBERS = (1, 5, 7, 9)
NO_WIDTHS = (0, 2, 6, 8, 10, -1, 10 ** 30, True, False, None, "5", 5.0, (5,), [5])


def possible_and_impossible_logs():
    return all_logs(NUMBERS, 3)


class Needs(ParcelCase):
    def test_against_a_plain_reckoning(self):
        for log in possible_and_impossible_logs():
            wanted = needs_of(log)
            self.assert_same(log.needs(), wanted)
            self.assertEqual(list(log.needs()), list(NUMBERS))
            for width in NUMBERS:
                self.assert_same(log.need(width), wanted[width])
            can_be = possible(log)
            self.assert_same(log.can_be(), can_be)
            self.assertIs(log.is_impossible(), len(can_be) == 0)
            self.assert_same(log.known(), can_be[0] if len(can_be) == 1 else None)

    def test_empty_log(self):
        for in_a_row in (False, True):
            log = make_log((10, 20), 1, in_a_row)
            self.assert_same(log.needs(), {10: 0, 20: 0})
            self.assert_same(log.can_be(), [10, 20])
            self.assertIs(log.is_impossible(), False)
            self.assertIsNone(log.known())

    def test_only_width_of_a_road(self):
        log = make_log((10,), 0, False)
        self.assert_same(log.known(), 10)
        self.assert_same(log.needs(), {10: 0})

    def test_losses_in_all(self):
        pairs = [(30, False), (20, True), (30, False), (20, False)]
        self.assertEqual(make_log((10, 20, 30), 3, False, *pairs).needs(), {10: None, 20: 1, 30: 3})
        self.assertEqual(make_log((10, 20, 30), 2, False, *pairs).needs(), {10: None, 20: 1, 30: None})
        self.assertEqual(make_log((10, 20, 30), 1, False, *pairs).needs(), {10: None, 20: 1, 30: None})
        self.assertEqual(make_log((10, 20, 30), 0, False, *pairs).needs(), {10: None, 20: None, 30: None})

    def test_losses_in_a_row(self):
        pairs = [(30, False), (20, True), (30, False), (20, False)]
        self.assertEqual(make_log((10, 20, 30), 3, True, *pairs).needs(), {10: None, 20: 1, 30: 2})
        self.assertEqual(make_log((10, 20, 30), 2, True, *pairs).needs(), {10: None, 20: 1, 30: 2})
        self.assertEqual(make_log((10, 20, 30), 1, True, *pairs).needs(), {10: None, 20: 1, 30: None})
        self.assertEqual(make_log((10, 20, 30), 0, True, *pairs).needs(), {10: None, 20: None, 30: None})

    def test_losses_before_an_answer_count_in_a_row(self):
        log = make_log((10, 20, 30), 1, True, (20, False), (20, False), (20, True))
        self.assertEqual(log.needs(), {10: None, 20: None, 30: None})
        log = make_log((10, 20, 30), 2, True, (20, False), (20, False), (20, True))
        self.assertEqual(log.needs(), {10: None, 20: 0, 30: 0})

    def test_probes_that_are_too_wide_do_not_part_a_row(self):
        # For the width 20 the probe of 30 does not count: two silences stand directly one behind the other.
        log = make_log((10, 20, 30), 1, True, (20, False), (30, False), (20, False))
        self.assertEqual(log.needs(), {10: 0, 20: None, 30: None})

    def test_widths_that_the_road_does_not_have(self):
        for pairs in ((), ((5, True),), ((5, True), (9, False), (9, False), (5, False), (5, False))):
            for losses in (0, 1):
                log = make_log(NUMBERS, losses, False, *pairs)
                for width in NO_WIDTHS:
                    with self.subTest(pairs=pairs, width=width):
                        self.assert_told(BadNumber, {"what": "width", "value": width}, log.need, width)

    def test_what_a_call_returns_may_be_changed(self):
        log = make_log((10, 20, 30), 1, False, (20, False))
        needs = log.needs()
        needs[10] = 9
        del needs[20]
        self.assertEqual(log.needs(), {10: 0, 20: 1, 30: 1})
        can_be = log.can_be()
        can_be.append(40)
        can_be[0] = 5
        self.assertEqual(log.can_be(), [10, 20, 30])
        self.assertEqual(log.road.widths.numbers, (10, 20, 30))

    def test_logs_with_hundred_pairs(self):
        pairs = [(30, False)] * 98 + [(20, True), (20, False)]
        for losses in (1, 2, 3):
            self.assertEqual(make_log((10, 20, 30), losses, False, *pairs).needs(), {10: None, 20: 1, 30: None})
            self.assertEqual(make_log((10, 20, 30), losses, True, *pairs).needs(), {10: None, 20: 1, 30: None})
        pairs = [(30, False), (30, True)] * 49 + [(30, False), (30, False)]
        self.assertEqual(make_log((10, 20, 30), 2, True, *pairs).needs(), {10: None, 20: None, 30: 2})
        self.assertEqual(make_log((10, 20, 30), 3, False, *pairs).needs(), {10: None, 20: None, 30: None})


class Rows(ParcelCase):
    def test_widths_that_can_be_stand_side_by_side(self):
        for log in possible_and_impossible_logs():
            can_be = log.can_be()
            if can_be:
                at = NUMBERS.index(can_be[0])
                self.assertEqual(tuple(can_be), NUMBERS[at:at + len(can_be)])
                needs = [log.need(width) for width in can_be]
                self.assertEqual(needs, sorted(needs))

    def test_row(self):
        for log in possible_and_impossible_logs():
            if possible(log):
                self.assert_same(log.row(), row_of(log))
                self.assertEqual(len(log.row()), log.road.losses + 1)
            else:
                self.assert_told(Impossible, {}, log.row)

    def test_single_rows(self):
        self.assert_same(make_log((10,), 0, False).row(), (1,))
        self.assert_same(make_log((10, 20, 30), 3, False).row(), (3, 0, 0, 0))
        self.assert_same(make_log((10, 20, 30), 2, True, (30, False), (30, False), (20, False)).row(), (1, 1, 0))
        self.assert_same(make_log((10, 20, 30), 1, False, (20, False), (20, True)).row(), (0, 2))
        self.assert_same(make_log((10, 20, 30), 1, True, (20, False), (20, True)).row(), (2, 0))


def parts(log, probe):
    can_be = possible(log)
    return any(width < probe for width in can_be) and any(width >= probe for width in can_be)


def would_be_impossible(log, probe):
    """Whether the log with the probe silent is impossible, for a log that is far from the limit."""
    return log.told(probe, False).is_impossible()


class Useful(ParcelCase):
    def test_useful(self):
        for log in possible_and_impossible_logs():
            if possible(log):
                self.assert_same(log.useful(), [probe for probe in NUMBERS[1:] if parts(log, probe)])
            else:
                self.assert_told(Impossible, {}, log.useful)

    def test_each_useful_probe_has_another_number_below(self):
        for log in possible_and_impossible_logs():
            can_be = possible(log)
            if can_be:
                below = [len([width for width in can_be if width < probe]) for probe in log.useful()]
                self.assertEqual(below, list(range(1, len(can_be))))

    def test_single_logs(self):
        self.assert_same(make_log((10,), 1, False).useful(), [])
        self.assert_same(make_log((10, 20, 30), 0, False).useful(), [20, 30])
        self.assert_same(make_log((10, 20, 30, 40), 0, False, (20, True), (40, False)).useful(), [30])
        self.assert_same(make_log((10, 20, 30), 0, False, (30, True)).useful(), [])

    def test_the_list_may_be_changed(self):
        log = make_log((10, 20, 30), 1, False)
        log.useful().append(40)
        self.assertEqual(log.useful(), [20, 30])

    def test_hundred_pairs(self):
        log = make_log((10, 20, 30, 40), 1, False, *([(20, True)] * 99), (30, False))
        self.assertEqual(log.useful(), [30, 40])
        with self.assertRaises(Impossible):
            make_log((10, 20), 1, False, *([(20, False)] * 99), (20, True)).useful()


class Surely(ParcelCase):
    def test_surely(self):
        for log in possible_and_impossible_logs():
            can_be = possible(log)
            for probe in NUMBERS[1:]:
                if not can_be:
                    self.assert_told(Impossible, {}, log.surely, probe)
                elif all(width < probe for width in can_be):
                    self.assertIs(log.surely(probe), False)
                elif all(width >= probe for width in can_be) and would_be_impossible(log, probe):
                    self.assertIs(log.surely(probe), True)
                else:
                    self.assertIs(log.surely(probe), None)

    def test_single_logs(self):
        log = make_log((10, 20, 30, 40), 1, False, (20, True), (40, False), (40, False))
        self.assertEqual([log.surely(probe) for probe in (20, 30, 40)], [None, None, False])
        log = make_log((10, 20, 30, 40), 1, False, (20, True), (20, False), (40, False))
        self.assertEqual([log.surely(probe) for probe in (20, 30, 40)], [True, None, False])
        log = make_log((10, 20, 30), 1, True, (20, True), (20, False))
        self.assertEqual([log.surely(probe) for probe in (20, 30)], [True, None])
        log = make_log((10, 20), 0, False, (20, False))
        self.assertEqual(log.surely(20), False)

    def test_some_widths_need_all_losses_and_some_do_not(self):
        # 20 needs no loss and 30 needs the only one: a silence at 20 would leave 20.
        log = make_log((10, 20, 30), 1, False, (20, True), (30, False))
        self.assertEqual(log.needs(), {10: None, 20: 0, 30: 1})
        self.assertIs(log.surely(20), None)

    def test_what_is_no_probe(self):
        logs = (
            make_log(NUMBERS, 0, False),
            make_log(NUMBERS, 0, False, (9, False), (9, True)),
        )
        for log in logs:
            for value in (1, *NO_WIDTHS):
                with self.subTest(value=value):
                    self.assert_told(BadNumber, {"what": "probe", "value": value}, log.surely, value)

    def test_an_impossible_log(self):
        log = make_log(NUMBERS, 0, False, (9, False), (9, True))
        self.assert_told(Impossible, {}, log.surely, 9)
        self.assert_told(Impossible, {}, log.surely, 5)

    def test_the_limit_of_pairs_does_not_matter(self):
        pairs = [(5, True)] * 98
        log = make_log(NUMBERS, 1, False, *pairs, (5, False), (7, True))
        self.assertEqual(len(log), 100)
        self.assertEqual([log.surely(probe) for probe in (5, 7, 9)], [True, True, None])
        log = make_log(NUMBERS, 2, False, *pairs, (5, False), (7, True))
        self.assertEqual([log.surely(probe) for probe in (5, 7, 9)], [None, None, None])
        log = make_log(NUMBERS, 0, True, *pairs, (7, True), (9, False))
        self.assertEqual([log.surely(probe) for probe in (5, 7, 9)], [True, True, False])


if __name__ == "__main__":
    unittest.main()
