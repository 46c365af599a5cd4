"""Numbers: what is one, what lies in a range, and what a text tells."""

from widestparcels.errors import BadNumber

DIGITS = "0123456789"
MOST_DIGITS = 6


def is_integer(value):
    """Tell whether the value is an integer, which True and False are not."""
    return isinstance(value, int) and not isinstance(value, bool)


def check_number(what, value, low, high):
    """Return the value if it is an integer from low to high; high may be None for no upper bound."""
    if not is_integer(value) or value < low:
        raise BadNumber(what, value)
    if high is not None and value > high:
        raise BadNumber(what, value)
    return value


def read_number(text):
    """Return the number that is told by one to six digits without a leading zero, except "0"."""
    if not _tells_number(text):
        raise BadNumber("number", text)
    return int(text)


def _tells_number(text):
    if not 1 <= len(text) <= MOST_DIGITS:
        return False
    if text[0] == "0":
        return text == "0"
    # Not isdigit: it also takes digits that are not ASCII.
    return all([sign in DIGITS for sign in text])
