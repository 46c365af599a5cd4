"""Logs: what the probes of a road have told, and which widths are left."""

from widestparcels.errors import BadNumber, BadPair, Impossible, TooMany, Unlike
from widestparcels.words import check_number, is_integer

MOST_PAIRS = 100


def is_probe(road, value):
    """Tell whether the value is a probe of the road: one of its widths, but not the least one."""
    return is_integer(value) and value in road.widths.numbers[1:]


def is_answer(value):
    """Tell whether the value is True or False, for which 1 and 0 do not stand."""
    return value is True or value is False


class Log:
    """What probes of a road have told, one after the other; a log never changes."""

    def __init__(self, road, *pairs):
        for place, (probe, answered) in enumerate(pairs):
            if not is_probe(road, probe) or not is_answer(answered):
                raise BadPair(place)
        if len(pairs) > MOST_PAIRS:
            raise TooMany(MOST_PAIRS)
        self.road = road
        self.pairs = tuple([(probe, answered) for probe, answered in pairs])

    def __getitem__(self, at):
        check_number("place", at, 0, len(self.pairs) - 1)
        return self.pairs[at]

    def __len__(self):
        return len(self.pairs)

    def __iter__(self):
        return iter(self.pairs)

    def __eq__(self, other):
        return isinstance(other, Log) and self.road == other.road and self.pairs == other.pairs

    def __le__(self, other):
        if not isinstance(other, Log):
            return NotImplemented
        if self.road != other.road:
            raise Unlike()
        return other.pairs[:len(self.pairs)] == self.pairs

    def __add__(self, other):
        if not isinstance(other, Log):
            return NotImplemented
        if self.road != other.road:
            raise Unlike()
        pairs = [*self.pairs, *other.pairs]
        return Log(self.road, *pairs)

    def told(self, probe, answered):
        """Return the log with one pair more."""
        pairs = [*self.pairs, (probe, answered)]
        return Log(self.road, *pairs)

    def need(self, width):
        """Return the number of losses that the log needs at the width, or None if it cannot come of it."""
        if width not in self.road.widths:
            raise BadNumber("width", width)
        lost = 0
        for probe, answered in self.pairs:
            if answered and probe > width:
                return None
            if answered and self.road.in_a_row:
                lost = 0
            if not answered and probe <= width:
                lost += 1
            if lost > self.road.losses:
                return None
        return lost

    def needs(self):
        """Return a dictionary from each width of the road, ascending, to its need or None."""
        return {width: self.need(width) for width in self.road.widths}

    def can_be(self):
        """Return the list of the widths of which the log can come, ascending."""
        return [width for width, need in self.needs().items() if need is not None]

    def is_impossible(self):
        """Tell whether the log can come of no width."""
        return len(self.can_be()) == 0

    def known(self):
        """Return the width if it is the only one that can be, otherwise None."""
        widths = self.can_be()
        if len(widths) == 1:
            return widths[0]
        return None

    def row(self):
        """Return how many of the widths that can be have the need 0, 1 and so on up to the losses."""
        row = [0] * (self.road.losses + 1)
        for width in self._possible():
            row[self.need(width)] += 1
        return tuple(row)

    def useful(self):
        """Return the list of the probes that part the widths that can be, ascending."""
        # The widths that can be stand side by side in the list of the road.
        # So a probe parts them if it is one of them, but not the least one.
        return self._possible()[1:]

    def surely(self, probe):
        """Return False or True if the probe will certainly be silent or answered, otherwise None."""
        if not is_probe(self.road, probe):
            raise BadNumber("probe", probe)
        widths = self._possible()
        if probe > widths[-1]:
            return False
        # Needs never fall: if the least width has no loss left, then none of the others has one.
        if probe <= widths[0] and self.need(widths[0]) == self.road.losses:
            return True
        return None

    def _possible(self):
        widths = self.can_be()
        if len(widths) == 0:
            raise Impossible()
        return widths
