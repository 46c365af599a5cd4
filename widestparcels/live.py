"""A live search: a log that goes on, with undo."""

from widestparcels.best import best_probes, least_cost
from widestparcels.errors import BadDeed, Impossible, NothingToUndo, ParcelError, Unlike
from widestparcels.log import MOST_PAIRS, Log
from widestparcels.words import check_number


class Search:
    """The search for the width of a road; it alone changes after it is made."""

    def __init__(self, road, prices):
        self.road = road
        self.prices = prices
        # How many pairs were told since the start or the last load.
        self.depth = 0
        self._log = Log(road)

    @property
    def log(self):
        """The present log; to assign one starts anew."""
        return self._log

    @log.setter
    def log(self, value):
        self.load(value)

    def load(self, log):
        """Start anew with the log, with nothing to undo."""
        if log.road != self.road:
            raise Unlike()
        if log.is_impossible():
            raise Impossible()
        self._log = log
        self.depth = 0

    def tell(self, probe, answered):
        """Add a pair to the log."""
        self._log = _told(self._log, probe, answered)
        self.depth += 1

    def tell_all(self, *pairs):
        """Add all of the pairs to the log, or none if one cannot be told."""
        log = self._log
        for place, (probe, answered) in enumerate(pairs):
            try:
                log = _told(log, probe, answered)
            except ParcelError as error:
                raise BadDeed(place) from error
        self._log = log
        self.depth += len(pairs)

    def undo(self, count=1):
        """Take back the last pairs."""
        check_number("count", count, 1, MOST_PAIRS)
        if count > self.depth:
            raise NothingToUndo()
        pairs = self._log.pairs[:-count]
        self._log = Log(self.road, *pairs)
        self.depth -= count

    def spent(self):
        """Return the sum of the prices of all pairs of the log."""
        answers = len([answered for _, answered in self._log if answered])
        silences = len(self._log) - answers
        return answers * self.prices.answer + silences * self.prices.silence

    def left(self):
        """Return the least greatest price from the log on."""
        return least_cost(self._log, self.prices)

    def advice(self):
        """Return the list of the best probes, ascending."""
        return best_probes(self._log, self.prices)


def _told(log, probe, answered):
    """Return the log with one pair more, if some width can be then."""
    longer = log.told(probe, answered)
    if longer.is_impossible():
        raise Impossible()
    return longer
