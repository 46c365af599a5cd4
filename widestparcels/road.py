"""Roads: the widths that can be, and how many fitting parcels may be lost."""

from widestparcels.words import check_number

MOST_LOSSES = 3


class Road:
    """A road of unknown width, with at most so many losses in all or in a row."""

    def __init__(self, widths, losses, *, in_a_row=False):
        check_number("losses", losses, 0, MOST_LOSSES)
        self.widths = widths
        self.losses = losses
        self.in_a_row = in_a_row

    def __eq__(self, other):
        return (
            isinstance(other, Road)
            and self.widths == other.widths
            and self.losses == other.losses
            and self.in_a_row == other.in_a_row
        )

    def probes(self):
        """Return the list of the probes: all widths but the least one, ascending."""
        return list(self.widths.numbers[1:])
