"""The rows that are reached from a log when each row has one number below."""

from widestparcels.rows import after_answer, after_silence


class Walk:
    """The ways of answers from a log on; number_at tells the number below for a row of sum 2 or more."""

    def __init__(self, log, number_at):
        self.start = log.row()
        self.widths = log.can_be()
        self.in_a_row = log.road.in_a_row
        # The reached rows of sum 2 or more, in the order in which they are reached.
        self.numbers = {}
        rows = [self.start]
        at = 0
        while at < len(rows):
            row = rows[at]
            at += 1
            if sum(row) > 1 and row not in self.numbers:
                self.numbers[row] = number_at(row)
                rows.append(self.answered(row))
                rows.append(self.silent(row))

    def answered(self, row):
        """Return the answered row of a reached row."""
        return after_answer(row, self.numbers[row], self.in_a_row)

    def silent(self, row):
        """Return the silent row of a reached row."""
        return after_silence(row, self.numbers[row])

    def worths(self, known, join):
        """Return the worth of each reached row.

        A row of sum 1 is worth known, another one what join makes of the worths of its answered and
        its silent row.
        """
        found = {}
        self._reckon(self.start, known, join, found)
        return found

    def course(self, answer_at):
        """Return the pairs that are sent if answer_at tells whether the probe at a row is answered."""
        row = self.start
        widths = self.widths
        pairs = []
        while len(widths) > 1:
            answered = answer_at(row)
            pairs.append((widths[self.numbers[row]], answered))
            row, widths = self.after(row, widths, answered)
        return pairs

    def after(self, row, widths, answered):
        """Return the row and the widths that are left of those of a reached row."""
        if answered:
            return self.answered(row), widths[self.numbers[row]:]
        silent = self.silent(row)
        # Needs never fall from a width to the next, so those that a silence strikes are the greatest.
        return silent, widths[:sum(silent)]

    def _reckon(self, row, known, join, found):
        # At most about 100 calls deep: with each step a width goes or a loss is spent.
        if row in found:
            return
        if sum(row) == 1:
            found[row] = known
            return
        answered = self.answered(row)
        silent = self.silent(row)
        self._reckon(answered, known, join, found)
        self._reckon(silent, known, join, found)
        found[row] = join(found[answered], found[silent])
