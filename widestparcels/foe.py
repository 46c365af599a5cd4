"""Foes: which answer is given for each row and number below, so that probes cost much."""

from widestparcels.best import costs_of, is_answer_worst
from widestparcels.errors import BadFoe
from widestparcels.log import is_answer
from widestparcels.plans import planned_walk
from widestparcels.rows import after_answer, after_silence


def check_foe(log, prices, foe):
    """Return the least cost that a plan can pay against the foe from the log on."""
    answers = _checked_answers(log, foe)
    return _least(log.row(), answers, prices, log.road.in_a_row, {})


def told_foe(log, prices):
    """Return the foe that always takes the dearer branch, with all pairs that it meets."""
    costs = costs_of(log, prices)
    return _met_answers(log, lambda row, below: is_answer_worst(costs, row, below))


def play_foe(log, prices, plan, foe):
    """Let the plan and the foe play from the log on; return what is paid, and the course."""
    walk = planned_walk(log, plan)
    answers = _checked_answers(log, foe)
    course = walk.course(lambda row: answers[(row, walk.numbers[row])])
    cost = sum([_price(prices, answered) for probe, answered in course])
    return (cost, course)


def _checked_answers(log, foe):
    return _met_answers(log, lambda row, below: _answer(foe, row, below))


def _answer(foe, row, below):
    if (row, below) not in foe:
        raise BadFoe(row, below, "lacks")
    answered = foe[(row, below)]
    if not is_answer(answered):
        raise BadFoe(row, below, "answer")
    return answered


def _met_answers(log, answer_at):
    """Return the answers to all pairs of a row and a number below that are met, in their order."""
    answers = {}
    rows = [log.row()]
    seen = set(rows)
    at = 0
    while at < len(rows):
        row = rows[at]
        at += 1
        for below in range(1, sum(row)):
            answered = answer_at(row, below)
            answers[(row, below)] = answered
            branch = _branch(row, below, answered, log.road.in_a_row)
            if branch not in seen:
                seen.add(branch)
                rows.append(branch)
    return answers


def _branch(row, below, answered, in_a_row):
    if answered:
        return after_answer(row, below, in_a_row)
    return after_silence(row, below)


def _price(prices, answered):
    if answered:
        return prices.answer
    return prices.silence


def _least(row, answers, prices, in_a_row, found):
    """Return the least cost from a met row on; found keeps what is reckoned."""
    # At most about 100 calls deep: with each step a width goes or a loss is spent.
    if sum(row) == 1:
        return 0
    if row in found:
        return found[row]
    costs = []
    for below in range(1, sum(row)):
        answered = answers[(row, below)]
        branch = _branch(row, below, answered, in_a_row)
        costs.append(_price(prices, answered) + _least(branch, answers, prices, in_a_row, found))
    # Beside a class with an order, min takes only what is plainly numbers.
    found[row] = min([int(cost) for cost in costs])
    return found[row]
