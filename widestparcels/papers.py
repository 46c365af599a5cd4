"""Certificates that nothing is cheaper: numbers that the costs of rows can not be less than."""

from widestparcels.best import costs_of
from widestparcels.errors import BadPaper
from widestparcels.rows import after_answer, after_silence, is_row
from widestparcels.words import check_number, is_integer


def check_at_least(log, prices, v, pairs):
    """Return True if the pairs are a certificate that the least cost of the log is at least v."""
    start = log.row()
    check_number("cost", v, 0, None)
    stated = _greatest_numbers(start, pairs)
    for place, (row, number) in enumerate(pairs):
        if not _is_right_row(start, row):
            raise BadPaper(place, "row")
        if not _is_right_number(number):
            raise BadPaper(place, "number")
        if number > 0 and sum(row) == 1:
            raise BadPaper(place, "one")
        if not _has_steps(row, number, prices, log.road.in_a_row, stated):
            raise BadPaper(place, "step")
    if start not in stated or stated[start] < v:
        raise BadPaper(len(pairs), "start")
    return True


def paper_at_least(log, prices):
    """Return a certificate for the least cost of the log: all rows that can come, with their costs."""
    start = log.row()
    costs = costs_of(log, prices)
    return [(row, costs(row)) for row in _rows_that_come(start, log.road.in_a_row)]


def _is_right_row(start, row):
    return is_row(row) and len(row) == len(start) and sum(row) <= sum(start)


def _is_right_number(number):
    return is_integer(number) and number >= 0


def _greatest_numbers(start, pairs):
    """Return for each row the greatest number that counts for a step."""
    stated = {}
    for row, number in pairs:
        if _is_right_row(start, row) and _is_right_number(number):
            if row not in stated or stated[row] < number:
                stated[row] = number
    return stated


def _has_steps(row, number, prices, in_a_row, stated):
    """Tell whether each number below has a branch that costs at least the rest of the number."""
    after_yes = number - prices.answer
    after_no = number - prices.silence
    for below in range(1, sum(row)):
        # Any row costs at least 0, so that a rest of 0 or less needs no row that is stated.
        if stated.get(after_answer(row, below, in_a_row), 0) < after_yes:
            if stated.get(after_silence(row, below), 0) < after_no:
                return False
    return True


def _rows_that_come(start, in_a_row):
    """Return the list of all rows that come from the first one by any numbers below, each once."""
    rows = [start]
    seen = {start}
    at = 0
    while at < len(rows):
        row = rows[at]
        at += 1
        for below in range(1, sum(row)):
            for branch in (after_answer(row, below, in_a_row), after_silence(row, below)):
                if branch not in seen:
                    seen.add(branch)
                    rows.append(branch)
    return rows
