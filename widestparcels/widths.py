"""The list of the widths that a road can have."""

from widestparcels.errors import BadNumber, BadOrder
from widestparcels.words import check_number, is_integer

MOST_WIDTHS = 24
GREATEST_WIDTH = 100000


class Widths:
    """An ascending list of 1 to 24 widths, which never changes."""

    def __init__(self, *widths):
        check_number("widths", len(widths), 1, MOST_WIDTHS)
        for place, width in enumerate(widths):
            check_number("width", width, 1, GREATEST_WIDTH)
            if place > 0 and width <= widths[place - 1]:
                raise BadOrder(place)
        self.numbers = widths

    def __getitem__(self, at):
        check_number("place", at, 0, len(self.numbers) - 1)
        return self.numbers[at]

    def __contains__(self, x):
        # True is equal to 1, but it is no width.
        return is_integer(x) and x in self.numbers

    def __len__(self):
        return len(self.numbers)

    def __iter__(self):
        return iter(self.numbers)

    def __eq__(self, other):
        return isinstance(other, Widths) and self.numbers == other.numbers

    def __le__(self, other):
        if not isinstance(other, Widths):
            return NotImplemented
        return all([width in other.numbers for width in self.numbers])

    def __or__(self, other):
        if not isinstance(other, Widths):
            return NotImplemented
        more = [width for width in other.numbers if width not in self.numbers]
        # Beside a class with an order, sorted takes only what is plainly numbers.
        either = sorted([int(width) for width in [*self.numbers, *more]])
        return Widths(*either)

    def __and__(self, other):
        if not isinstance(other, Widths):
            return NotImplemented
        both = [width for width in self.numbers if width in other.numbers]
        return Widths(*both)

    def __sub__(self, other):
        if not isinstance(other, Widths):
            return NotImplemented
        rest = [width for width in self.numbers if width not in other.numbers]
        return Widths(*rest)

    def below(self, x):
        """Return the number of widths that are less than the integer x."""
        if not is_integer(x):
            raise BadNumber("width", x)
        return len([width for width in self.numbers if width < x])
