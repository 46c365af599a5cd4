"""Courses: what a plan sends and what is answered, until the width is known."""

from widestparcels.errors import TooMany
from widestparcels.log import MOST_PAIRS
from widestparcels.plans import greatest_costs, planned_walk


def count_courses(log, plan):
    """Return the number of different courses of the plan."""
    walk = planned_walk(log, plan)
    counts = walk.worths(1, lambda yes, no: yes + no)
    return counts[walk.start]


def courses(log, plan):
    """Yield the courses of the plan, answered before silent at the first difference."""
    walk = planned_walk(log, plan)
    waiting = [(walk.start, walk.widths, [])]
    while len(waiting) > 0:
        row, widths, pairs = waiting.pop()
        if len(widths) == 1:
            yield pairs
        else:
            probe = widths[walk.numbers[row]]
            # What comes last into the list is taken first.
            for answered in (False, True):
                next_row, left = walk.after(row, widths, answered)
                waiting.append((next_row, left, [*pairs, (probe, answered)]))


def dearest(log, prices, plan):
    """Return the greatest cost of a course, and the first course that has it."""
    walk = planned_walk(log, plan)
    costs = greatest_costs(walk, prices)
    course = walk.course(lambda row: _answer_costs_more(walk, prices, costs, row) >= 0)
    return (costs[walk.start], course)


def cheapest(log, prices, plan):
    """Return the least cost of a course, and the first course that has it."""
    walk = planned_walk(log, plan)
    # Beside a class with an order, min takes only what is plainly numbers.
    costs = walk.worths(0, lambda yes, no: min(int(prices.answer + yes), int(prices.silence + no)))
    course = walk.course(lambda row: _answer_costs_more(walk, prices, costs, row) <= 0)
    return (costs[walk.start], course)


def play(log, plan, ask):
    """Send the probes of the plan, let ask answer them, and return the log at the end."""
    walk = planned_walk(log, plan)
    while log.known() is None:
        if len(log) == MOST_PAIRS:
            raise TooMany(MOST_PAIRS)
        probe = log.useful()[walk.numbers[log.row()] - 1]
        log = log.told(probe, ask(probe))
    return log


def _answer_costs_more(walk, prices, costs, row):
    """Return how much more the answered branch of a reached row costs than the silent one."""
    return prices.answer + costs[walk.answered(row)] - prices.silence - costs[walk.silent(row)]
