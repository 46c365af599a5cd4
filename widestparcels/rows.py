"""Rows: all of a log that matters, how many of its widths need 0 losses, 1 loss and so on."""

from widestparcels.errors import BadRow, Unlike
from widestparcels.road import MOST_LOSSES
from widestparcels.widths import MOST_WIDTHS
from widestparcels.words import check_number, is_integer


def is_row(value):
    """Tell whether the value is a tuple of 1 to 4 integers from 0 on whose sum is 1 to 24."""
    if not isinstance(value, tuple) or not 1 <= len(value) <= MOST_LOSSES + 1:
        return False
    if not all([is_integer(number) and number >= 0 for number in value]):
        return False
    return 1 <= sum(value) <= MOST_WIDTHS


def check_row(row):
    """Return the row if it is one."""
    if not is_row(row):
        raise BadRow(row)
    return row


def answered_row(row, below, *, in_a_row=False):
    """Return the row after the probe with so many widths below it is answered."""
    check_row(row)
    check_number("below", below, 1, sum(row) - 1)
    return after_answer(row, below, in_a_row)


def silent_row(row, below):
    """Return the row after the probe with so many widths below it is silent."""
    check_row(row)
    check_number("below", below, 1, sum(row) - 1)
    return after_silence(row, below)


def sits_in(first, second):
    """Tell whether the first row's widths find seats in the second one that need no more than they do."""
    check_row(first)
    check_row(second)
    if len(first) != len(second):
        raise Unlike()
    return all([sum(second[:end]) >= sum(first[:end]) for end in range(1, len(first) + 1)])


def after_answer(row, below, in_a_row):
    """Return the answered row; the row and the number below are known to be right."""
    if in_a_row:
        return (sum(row) - below,) + (0,) * (len(row) - 1)
    need, gone = _part(row, below)
    return (0,) * need + (row[need] - gone,) + row[need + 1:]


def after_silence(row, below):
    """Return the silent row; the row and the number below are known to be right."""
    need, kept = _part(row, below)
    # The least widths keep their needs. To put one number more before the rest gives each width of
    # the rest one loss more, and the cut takes those that would need more than the losses.
    return (row[:need] + (kept, row[need] - kept) + row[need + 1:])[:len(row)]


def _part(row, below):
    """Return the need of the greatest width below the probe, and how many with that need are below."""
    need = 0
    while below > row[need]:
        below -= row[need]
        need += 1
    return need, below
