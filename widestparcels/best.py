"""The least cost of a log, and the probes by which it is reached."""

from widestparcels.costs import Costs
from widestparcels.errors import BadNumber
from widestparcels.words import is_integer


def least_cost(log, prices):
    """Return the least greatest price from the log on, over all plans."""
    costs = costs_of(log, prices)
    return costs(log.row())


def best_probes(log, prices):
    """Return the list of the useful probes by which the least cost is reached, ascending."""
    return [probe for probe, extra in extras(log, prices) if extra == 0]


def extras(log, prices):
    """Return the list of the useful probes, ascending, each with what it can cost more than the least."""
    row = log.row()
    costs = costs_of(log, prices)
    return [(probe, costs.extra(row, at + 1)) for at, probe in enumerate(log.useful())]


def worst_answer(log, prices, probe):
    """Tell whether the answered branch of a useful probe costs at least as much as the silent one."""
    row = log.row()
    useful = log.useful()
    if not is_integer(probe) or probe not in useful:
        raise BadNumber("probe", probe)
    return is_answer_worst(costs_of(log, prices), row, useful.index(probe) + 1)


def is_answer_worst(costs, row, below):
    """Tell whether the answered branch costs at least as much as the silent one."""
    return costs.answered_cost(row, below) >= costs.silent_cost(row, below)


def costs_of(log, prices):
    """Return the costs of the rows of logs of the log's road."""
    return Costs(log.road.losses, prices, in_a_row=log.road.in_a_row)
