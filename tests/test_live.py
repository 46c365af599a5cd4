"""[2], [32] and [33]: a search that goes on, with undo."""

import unittest

from helper import ParcelCase
from plain import KINDS
from widestparcels.best import best_probes, least_cost
from widestparcels.costs import Prices
from widestparcels.errors import BadDeed, BadNumber, BadPair, Impossible, NothingToUndo, TooMany, Unlike
from widestparcels.live import Search
from widestparcels.log import Log
from widestparcels.road import Road
from widestparcels.widths import Widths

ROAD = Road(Widths(1, 20, 30, 40), 1)
PRICES = Prices(3, 2)
HUNDRED = ((20, True),) * 100
UNLIKE = (
    Road(Widths(1, 20, 30, 41), 1),
    Road(Widths(1, 20, 30), 1),
    Road(Widths(1, 20, 30, 40), 0),
    Road(Widths(1, 20, 30, 40), 1, in_a_row=True),
)
NO_PAIRS = ((1, True), (21, True), (True, True), (None, False), ("20", True), (20, 1), (20, None), (30, "yes"))


class LiveCase(ParcelCase):
    def setUp(self):
        self.search = Search(ROAD, PRICES)

    def assert_state(self, pairs, depth):
        """The search has just these pairs and so many that can be taken back."""
        self.assertEqual(self.search.log, Log(ROAD, *pairs))
        self.assert_same(self.search.log.pairs, tuple(pairs))
        self.assert_same(self.search.depth, depth)
        self.assertIs(self.search.road, ROAD)
        self.assertIs(self.search.prices, PRICES)

    def assert_refused(self, kind, attributes, call, *args):
        """The call raises the error, and the search is as before."""
        log, depth = self.search.log, self.search.depth
        before = (log.pairs, self.search.spent(), self.search.left(), self.search.advice())
        self.assert_told(kind, attributes, call, *args)
        self.assertEqual(self.search.log, log)
        self.assert_same(self.search.depth, depth)
        after = (self.search.log.pairs, self.search.spent(), self.search.left(), self.search.advice())
        self.assertEqual(after, before)


class Starting(LiveCase):
    def test_attributes(self):
        self.assert_state((), 0)
        self.assertIs(type(self.search.log), Log)
        search = Search(road=ROAD, prices=PRICES)
        self.assertIs(search.road, ROAD)
        self.assertIs(search.prices, PRICES)
        self.assert_same(search.depth, 0)

    def test_two_searches_do_not_disturb_each_other(self):
        other = Search(ROAD, PRICES)
        self.search.tell(20, True)
        self.assertEqual([len(other.log), other.depth], [0, 0])


class Telling(LiveCase):
    def test_tell(self):
        self.assertIsNone(self.search.tell(20, True))
        self.assert_state([(20, True)], 1)
        self.assertIsNone(self.search.tell(40, False))
        self.assert_state([(20, True), (40, False)], 2)
        self.assertIsNone(self.search.tell(probe=40, answered=False))
        self.assert_state([(20, True), (40, False), (40, False)], 3)

    def test_the_log_before_stays_as_it_was(self):
        before = self.search.log
        self.search.tell(20, True)
        self.assertEqual(before.pairs, ())
        between = self.search.log
        self.search.undo()
        self.assertEqual(between.pairs, ((20, True),))

    def test_wrong_pairs(self):
        for told in ((), ((20, True), (30, False))):
            self.search.load(Log(ROAD, *told))
            for probe, answered in NO_PAIRS:
                self.assert_refused(BadPair, {"place": len(told)}, self.search.tell, probe, answered)

    def test_too_many_pairs(self):
        self.search.load(Log(ROAD, *HUNDRED[:99]))
        self.search.tell(20, True)
        self.assert_state(HUNDRED, 1)
        self.assert_refused(TooMany, {"limit": 100}, self.search.tell, 20, True)
        # A wrong pair is told first, as by Log.
        self.assert_refused(BadPair, {"place": 100}, self.search.tell, 1, True)
        # Too many pairs are told before an impossible log.
        self.search.load(Log(ROAD, *HUNDRED[:99], (20, False)))
        self.assert_refused(TooMany, {"limit": 100}, self.search.tell, 20, False)

    def test_impossible(self):
        self.search.tell(40, True)
        self.search.tell(20, False)
        self.assert_state([(40, True), (20, False)], 2)
        for probe in (20, 30, 40):
            self.assert_refused(Impossible, {}, self.search.tell, probe, False)
        self.search.tell(30, True)
        self.assert_state([(40, True), (20, False), (30, True)], 3)

    def test_a_known_width_is_no_error(self):
        for _ in range(2):
            self.search.tell(20, False)
        self.assertEqual(self.search.log.known(), 1)
        self.search.tell(40, False)
        self.assertEqual(self.search.depth, 3)


class Loading(LiveCase):
    def test_load(self):
        self.search.tell(20, True)
        log = Log(Road(Widths(1, 20, 30, 40), 1), (30, False), (40, False))
        self.assertIsNone(self.search.load(log))
        self.assert_state([(30, False), (40, False)], 0)

    def test_assigning(self):
        self.search.tell(20, True)
        self.search.log = Log(ROAD, (30, False), (40, False))
        self.assert_state([(30, False), (40, False)], 0)
        self.search.tell(20, True)
        self.assert_state([(30, False), (40, False), (20, True)], 1)
        self.search.log = Log(ROAD)
        self.assert_state([], 0)

    def assert_not_loaded(self, kind, log):
        self.assert_refused(kind, {}, self.search.load, log)
        self.assert_refused(kind, {}, setattr, self.search, "log", log)

    def test_logs_of_other_roads(self):
        self.search.tell(20, True)
        for road in UNLIKE:
            self.assert_not_loaded(Unlike, Log(road))
            self.assert_not_loaded(Unlike, Log(road, (20, True)))

    def test_impossible_logs(self):
        self.search.tell(20, True)
        self.assert_not_loaded(Impossible, Log(ROAD, (20, False), (20, False), (20, True)))

    def test_another_road_is_told_before_an_impossible_log(self):
        for road in UNLIKE:
            log = Log(road, (20, False), (20, False), (20, True))
            self.assertTrue(log.is_impossible())
            self.assert_not_loaded(Unlike, log)

    def test_nothing_to_undo_after_a_load(self):
        self.search.tell(20, True)
        self.search.load(Log(ROAD, (20, True), (30, True)))
        self.assert_refused(NothingToUndo, {}, self.search.undo)
        self.search.tell(40, False)
        self.assert_refused(NothingToUndo, {}, self.search.undo, 2)
        self.search.undo()
        self.assert_state([(20, True), (30, True)], 0)

    def test_after_a_refused_load_all_can_be_taken_back(self):
        self.search.tell(20, True)
        self.search.tell(40, False)
        self.assert_not_loaded(Unlike, Log(UNLIKE[0]))
        self.search.undo(2)
        self.assert_state([], 0)


class Undoing(LiveCase):
    def setUp(self):
        LiveCase.setUp(self)
        self.pairs = [(20, True), (40, False), (30, True), (20, True), (20, True)]
        for probe, answered in self.pairs:
            self.search.tell(probe, answered)

    def test_one(self):
        self.assertIsNone(self.search.undo())
        self.assert_state(self.pairs[:4], 4)
        self.assertIsNone(self.search.undo(1))
        self.assert_state(self.pairs[:3], 3)

    def test_several(self):
        self.assertIsNone(self.search.undo(3))
        self.assert_state(self.pairs[:2], 2)
        self.search.undo(count=2)
        self.assert_state([], 0)

    def test_all(self):
        self.search.undo(5)
        self.assert_state([], 0)
        self.assert_refused(NothingToUndo, {}, self.search.undo)

    def test_hundred(self):
        self.search.load(Log(ROAD))
        for probe, answered in HUNDRED:
            self.search.tell(probe, answered)
        self.assert_state(HUNDRED, 100)
        self.search.undo(100)
        self.assert_state([], 0)

    def test_too_many(self):
        for count in (6, 7, 100):
            self.assert_refused(NothingToUndo, {}, self.search.undo, count)

    def test_wrong_counts(self):
        for count in (0, -1, 101, 10 ** 30, True, False, None, "1", 1.0, (1,), [1]):
            self.assert_refused(BadNumber, {"what": "count", "value": count}, self.search.undo, count)

    def test_wrong_counts_are_told_first(self):
        self.search.load(Log(ROAD))
        for count in (0, 101, True):
            self.assert_refused(BadNumber, {"what": "count", "value": count}, self.search.undo, count)

    def test_telling_after_undo(self):
        self.search.undo(2)
        self.search.tell(40, True)
        self.assert_state([*self.pairs[:3], (40, True)], 4)
        self.search.undo(4)
        self.assert_state([], 0)


class Asking(LiveCase):
    def test_spent(self):
        self.assert_same(self.search.spent(), 0)
        self.search.tell(20, True)
        self.assert_same(self.search.spent(), 3)
        self.search.tell(40, False)
        self.assert_same(self.search.spent(), 5)
        self.search.tell(30, True)
        self.assert_same(self.search.spent(), 8)
        self.search.undo(2)
        self.assert_same(self.search.spent(), 3)
        # The pairs of a log that was loaded count as well.
        self.search.load(Log(ROAD, (20, True), (20, True), (40, False)))
        self.assert_same(self.search.spent(), 8)
        self.search.tell(40, False)
        self.assert_same(self.search.spent(), 10)

    def test_spent_with_a_price_of_zero(self):
        search = Search(ROAD, Prices(0, 7))
        search.tell_all((20, True), (30, True), (40, False))
        self.assert_same(search.spent(), 7)

    def test_left_and_advice(self):
        for losses, in_a_row in KINDS:
            road = Road(Widths(1, 20, 30, 40, 50), losses, in_a_row=in_a_row)
            for prices in (Prices.even(), Prices(3, 2), Prices(0, 1)):
                search = Search(road, prices)
                for pairs in ((), ((20, True), (50, False)), ((20, True), (50, True))):
                    log = Log(road, *pairs)
                    search.load(log)
                    self.assert_same(search.left(), least_cost(log, prices))
                    self.assert_same(search.advice(), best_probes(log, prices))
        self.assert_same(search.left(), 0)
        self.assert_same(search.advice(), [])

    def test_left_and_advice_go_on(self):
        search = Search(Road(Widths(10, 20, 30), 0), Prices.even())
        self.assertEqual([search.left(), search.advice()], [2, [20, 30]])
        search.tell(20, True)
        self.assertEqual([search.left(), search.advice()], [1, [30]])
        search.tell(30, False)
        self.assertEqual([search.left(), search.advice()], [0, []])
        search.undo(2)
        self.assertEqual([search.left(), search.advice()], [2, [20, 30]])

    def test_asking_changes_nothing(self):
        self.search.tell(20, True)
        self.search.advice().clear()
        self.search.left()
        self.search.spent()
        self.assert_state([(20, True)], 1)
        self.assertEqual(self.search.advice(), best_probes(self.search.log, PRICES))


class TellingAll(LiveCase):
    def assert_bad_deed(self, place, kind, attributes, *pairs):
        with self.subTest(pairs=pairs):
            self.assert_refused(BadDeed, {"place": place}, self.search.tell_all, *pairs)
            with self.assertRaises(BadDeed) as caught:
                self.search.tell_all(*pairs)
            cause = caught.exception.__cause__
            self.assertIs(type(cause), kind)
            self.assertEqual(vars(cause), attributes)

    def test_no_pair(self):
        self.assertIsNone(self.search.tell_all())
        self.assert_state([], 0)
        self.search.tell(20, True)
        self.assertIsNone(self.search.tell_all())
        self.assert_state([(20, True)], 1)

    def test_right_pairs(self):
        self.assertIsNone(self.search.tell_all((20, True), (40, False)))
        self.assert_state([(20, True), (40, False)], 2)
        self.assertIsNone(self.search.tell_all((30, True)))
        self.assert_state([(20, True), (40, False), (30, True)], 3)

    def test_wrong_pairs_at_each_place(self):
        for told in ((), ((20, True), (40, False))):
            self.search.load(Log(ROAD, *told))
            self.search.tell(20, True)
            for wrong in NO_PAIRS:
                at = len(told) + 1
                self.assert_bad_deed(0, BadPair, {"place": at}, wrong)
                self.assert_bad_deed(0, BadPair, {"place": at}, wrong, (20, True), (30, True))
                self.assert_bad_deed(1, BadPair, {"place": at + 1}, (20, True), wrong, (30, True))
                self.assert_bad_deed(2, BadPair, {"place": at + 2}, (20, True), (30, True), wrong)

    def test_the_first_of_several_wrong_pairs(self):
        self.assert_bad_deed(1, BadPair, {"place": 1}, (20, True), (1, True), (20, None))
        self.search.tell_all((40, True), (20, False))
        self.assert_bad_deed(1, Impossible, {}, (20, True), (20, False), (1, True))
        self.assert_bad_deed(0, BadPair, {"place": 2}, (1, True), (20, False))

    def test_a_pair_that_makes_the_log_impossible(self):
        self.search.tell_all((40, True), (20, False))
        for place in range(3):
            pairs = [(20, True), (30, True)]
            pairs.insert(place, (20, False))
            self.assert_bad_deed(place, Impossible, {}, *pairs)

    def test_a_pair_too_many(self):
        self.assert_bad_deed(100, TooMany, {"limit": 100}, *HUNDRED, (20, True))
        self.search.load(Log(ROAD, *HUNDRED[:98]))
        self.assert_bad_deed(2, TooMany, {"limit": 100}, *HUNDRED[:3], (1, True))
        self.search.tell_all((20, True), (20, True))
        self.assert_state(HUNDRED, 2)
        self.assert_bad_deed(0, TooMany, {"limit": 100}, (20, True))

    def test_undo_of_part(self):
        self.search.tell_all((20, True), (40, False), (30, True))
        self.search.undo()
        self.assert_state([(20, True), (40, False)], 2)
        self.search.undo(2)
        self.assert_state([], 0)
        self.search.tell_all((20, True), (40, False), (30, True))
        self.assert_refused(NothingToUndo, {}, self.search.undo, 4)

    def test_pairs_of_a_refused_call_cannot_be_taken_back(self):
        self.search.tell(20, True)
        self.assert_bad_deed(2, BadPair, {"place": 3}, (20, True), (30, True), (1, True))
        self.assert_refused(NothingToUndo, {}, self.search.undo, 2)
        self.search.undo()
        self.assert_state([], 0)

    def test_lists_may_be_changed(self):
        pairs = [(20, True), (40, False)]
        self.search.tell_all(*pairs)
        pairs.clear()
        self.assert_state([(20, True), (40, False)], 2)


if __name__ == "__main__":
    unittest.main()
