"""Prices of answers and silences, and the least greatest cost of a row."""

from widestparcels.errors import BadNumber, BadRow
from widestparcels.road import MOST_LOSSES
from widestparcels.rows import after_answer, after_silence, check_row
from widestparcels.words import check_number

GREATEST_PRICE = 100


class Prices:
    """What an answer and a silence cost; prices never change."""

    def __init__(self, answer, silence):
        check_number("answer", answer, 0, GREATEST_PRICE)
        check_number("silence", silence, 0, GREATEST_PRICE)
        if answer == 0 and silence == 0:
            raise BadNumber("prices", 0)
        self.answer = answer
        self.silence = silence

    def __eq__(self, other):
        return isinstance(other, Prices) and self.answer == other.answer and self.silence == other.silence

    def __mul__(self, other):
        check_number("times", other, 1, None)
        return Prices(self.answer * other, self.silence * other)

    def __rmul__(self, other):
        return self * other

    @staticmethod
    def even():
        """Return the prices by which each probe costs 1."""
        return Prices(1, 1)


class Costs:
    """The least greatest costs of the rows of roads with these losses."""

    def __init__(self, losses, prices, *, in_a_row=False):
        check_number("losses", losses, 0, MOST_LOSSES)
        self.losses = losses
        self.prices = prices
        self.in_a_row = in_a_row
        # Each row is reckoned once. A cost that is kept never changes what a call returns.
        self._kept = {}

    def __call__(self, row):
        self._check(row)
        return self._cost(row)

    def best(self, row):
        """Return the list of the numbers below by which the cost of the row is reached, ascending."""
        self._check(row)
        cost = self._cost(row)
        return [below for below in range(1, sum(row)) if self._dearer(row, below) == cost]

    def extra(self, row, below):
        """Return how much more than the cost of the row it can cost if the number below is taken."""
        self._check(row)
        check_number("below", below, 1, sum(row) - 1)
        return self._dearer(row, below) - self._cost(row)

    def answered_cost(self, row, below):
        """Return the cost of the answered branch; the row and the number below are known to be right."""
        return self.prices.answer + self._cost(after_answer(row, below, self.in_a_row))

    def silent_cost(self, row, below):
        """Return the cost of the silent branch; the row and the number below are known to be right."""
        return self.prices.silence + self._cost(after_silence(row, below))

    def _check(self, row):
        check_row(row)
        if len(row) != self.losses + 1:
            raise BadRow(row)

    def _cost(self, row):
        if sum(row) == 1:
            return 0
        if row not in self._kept:
            self._kept[row] = self._least(row)
        return self._kept[row]

    def _dearer(self, row, below):
        # Beside a class with an order, max and min take only what is plainly numbers.
        return max(int(self.answered_cost(row, below)), int(self.silent_cost(row, below)))

    def _least(self, row):
        # With one width more below the probe, the answered row sits in the one before, and the silent
        # row before sits in the new one. A row that sits in another costs no more. So the answered
        # branch never gets dearer and the silent one never cheaper: the least of the dearer branches
        # is where the silent one first costs as much, or one number before.
        low = 1
        high = sum(row) - 1
        while low < high:
            middle = (low + high) // 2
            if self.silent_cost(row, middle) < self.answered_cost(row, middle):
                low = middle + 1
            else:
                high = middle
        if low == 1:
            return self._dearer(row, low)
        return min(int(self._dearer(row, low - 1)), int(self._dearer(row, low)))
