"""Plans: which number below is taken for each row, and what that costs."""

from widestparcels.best import costs_of
from widestparcels.errors import BadPlan
from widestparcels.walk import Walk
from widestparcels.words import is_integer


def check_plan(log, prices, plan):
    """Return the greatest cost that can come if the plan is followed from the log on."""
    walk = planned_walk(log, plan)
    return greatest_costs(walk, prices)[walk.start]


def told_plan(log, prices):
    """Return a plan of least cost: all rows that it reaches, each with the least of the best numbers."""
    costs = costs_of(log, prices)
    walk = Walk(log, lambda row: costs.best(row)[0])
    return walk.numbers


def planned_walk(log, plan):
    """Return the walk of the plan from the log on, with the errors of check_plan."""
    return Walk(log, lambda row: _number(plan, row))


def greatest_costs(walk, prices):
    """Return for each reached row the greatest cost that can come from there on."""
    # Beside a class with an order, max takes only what is plainly numbers.
    return walk.worths(0, lambda yes, no: max(int(prices.answer + yes), int(prices.silence + no)))


def _number(plan, row):
    if row not in plan:
        raise BadPlan(row, "lacks")
    below = plan[row]
    if not is_integer(below) or not 1 <= below < sum(row):
        raise BadPlan(row, "below")
    return below
