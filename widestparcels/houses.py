"""House logs: what probes told on a road on which narrow houses tell their width."""

from widestparcels.errors import BadPair
from widestparcels.words import check_number, is_integer

MOST_HOUSES = 8


class HouseLog:
    """What probes of a road with at most so many houses have told; a house log never changes."""

    def __init__(self, widths, houses, *pairs):
        check_number("houses", houses, 0, MOST_HOUSES)
        can_be = widths.numbers
        left = houses
        if houses == 0:
            can_be = can_be[-1:]
        for place, (probe, told) in enumerate(pairs):
            if not _can_come(can_be, probe, told):
                raise BadPair(place)
            can_be, left = _after(can_be, left, probe, told)
        self.widths = widths
        self.houses = houses
        self.pairs = tuple([(probe, told) for probe, told in pairs])
        self._can_be = can_be
        self._left = left

    def __getitem__(self, at):
        check_number("place", at, 0, len(self.pairs) - 1)
        return self.pairs[at]

    def __len__(self):
        return len(self.pairs)

    def __iter__(self):
        return iter(self.pairs)

    def __eq__(self, other):
        return (
            isinstance(other, HouseLog)
            and self.widths == other.widths
            and self.houses == other.houses
            and self.pairs == other.pairs
        )

    def told(self, probe, answer):
        """Return the house log with one pair more."""
        pairs = [*self.pairs, (probe, answer)]
        return HouseLog(self.widths, self.houses, *pairs)

    def can_be(self):
        """Return the list of the widths that can be, ascending."""
        return list(self._can_be)

    def houses_left(self):
        """Return how many houses at most have not told their width."""
        return self._left

    def known(self):
        """Return the width if it is the only one that can be, otherwise None."""
        if len(self._can_be) == 1:
            return self._can_be[0]
        return None

    def useful(self):
        """Return the list of the probes that part the widths that can be, ascending."""
        return list(_useful(self._can_be))


def least_probes(houselog):
    """Return the least number of useful probes that is enough, whatever is told."""
    return least_number(len(houselog.can_be()), houselog.houses_left())


def told_probe(houselog):
    """Return the next probe of a way that never takes more than least_probes, or None if the width is known."""
    can_be = houselog.can_be()
    if len(can_be) == 1:
        return None
    return can_be[told_below(len(can_be), houselog.houses_left())]


def least_number(number, left):
    """Return the least number of probes that is enough for so many widths and so many houses left."""
    # For one width no halving is needed, and so no probe.
    # Beside a class with an order, min takes only what is plainly numbers.
    return min(int(left), int(_halvings(number)))


def told_below(number, left):
    """Return how many of two widths or more are below the probe that told_probe gives."""
    if left <= _halvings(number):
        return number - 1
    return number // 2


def _halvings(number):
    """Return the least q for which 2 to the power of q is at least the number."""
    return (number - 1).bit_length()


def _useful(can_be):
    # The widths that can be stand side by side in the list of the road.
    # So a probe parts them if it is one of them, but not the least one.
    return can_be[1:]


def _can_come(can_be, probe, told):
    """Tell whether the probe is useful and can bring what was told."""
    if not is_integer(probe) or probe not in _useful(can_be):
        return False
    # True is equal to 1, but it is no width.
    return told is None or (is_integer(told) and told in can_be and told < probe)


def _after(can_be, left, probe, told):
    """Return the widths that can be and the houses that are left after a right pair."""
    if told is None:
        return tuple([width for width in can_be if width >= probe]), left
    if left == 1:
        return (told,), 0
    return tuple([width for width in can_be if width <= told]), left - 1
