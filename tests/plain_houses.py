"""Plain reckonings for roads with houses, after the words of the document, to compare the program with."""

import functools
import itertools

from plain import in_order
from widestparcels.houses import HouseLog
from widestparcels.widths import Widths


def house_log(numbers, houses, *pairs):
    return HouseLog(Widths(*numbers), houses, *pairs)


def wide_house_log(many, houses, *pairs):
    """A house log on a road with the widths 1, 2 and so on."""
    return house_log(range(1, many + 1), houses, *pairs)


def first_told(stand, probe):
    """The width that the first house narrower than the probe tells, or None."""
    return next((house for house in stand if house < probe), None)


def width_of(numbers, stand):
    return min([*stand, numbers[-1]])


@functools.lru_cache(maxsize=None)
def stands(numbers, most):
    """All rows of at most so many houses on a road with these widths, in each order."""
    return [
        stand
        for many in range(most + 1)
        for stand in itertools.product(numbers[:-1], repeat=many)
    ]


def start_of(numbers, houses):
    """The widths that can be at first, and the houses that are left."""
    return (tuple(numbers) if houses >= 1 else tuple(numbers[-1:])), houses


def useful_among(numbers, can_be):
    return [
        probe
        for probe in numbers
        if any(width < probe for width in can_be) and any(width >= probe for width in can_be)
    ]


def tellings(can_be, probe):
    """All that a useful probe can bring."""
    return [None] + [width for width in can_be if width < probe]


def after(can_be, left, probe, told):
    if told is None:
        return tuple(width for width in can_be if width >= probe), left
    if left == 1:
        return (told,), 0
    return tuple(width for width in can_be if width <= told), left - 1


@functools.lru_cache(maxsize=None)
def least_by_search(can_be, left):
    """The least number of probes, by trying all useful probes and all that they can bring."""
    if len(can_be) == 1:
        return 0
    return 1 + min(
        max(least_by_search(*after(can_be, left, probe, told)) for told in tellings(can_be, probe))
        for probe in useful_among(can_be, can_be)
    )


def all_house_logs(numbers, most):
    """All house logs of a road with these widths, with each list of right pairs."""
    for houses in range(most + 1):
        waiting = [((), *start_of(numbers, houses))]
        while waiting:
            pairs, can_be, left = waiting.pop()
            yield pairs, can_be, left, house_log(numbers, houses, *pairs)
            for probe in useful_among(numbers, can_be):
                for told in tellings(can_be, probe):
                    waiting.append(((*pairs, (probe, told)), *after(can_be, left, probe, told)))


def branches_at(state, below):
    """The states that a number below leads to: the answered one, then the told ones by ascending kept."""
    number, left = state
    told = [(1, 0)] if left == 1 else [(kept, left - 1) for kept in range(1, below + 1)]
    return [(number - below, left), *told]


def reached_states(start, number_at):
    """The states of two widths or more that are reached if number_at tells the number below, in their order."""

    def branches_of(state):
        return branches_at(state, number_at(state)) if state[0] > 1 else []

    return [state for state in in_order(start, branches_of) if state[0] > 1]


def coming_states(start):
    """All states that come from the first one by any numbers below."""

    def branches_of(state):
        return [branch for below in range(1, state[0]) for branch in branches_at(state, below)]

    return in_order(start, branches_of)


def state_of(log):
    return len(log.can_be()), log.houses_left()


def some_house_plan(chance, start):
    """A house plan with numbers below by chance, which has just the states that it reaches, in their order."""
    numbers = {}

    def number_at(state):
        if state not in numbers:
            numbers[state] = chance.randint(1, state[0] - 1)
        return numbers[state]

    return {state: number_at(state) for state in reached_states(start, number_at)}


def some_house_logs():
    """House logs with and without pairs."""
    for many in (1, 2, 3, 5, 8):
        for houses in (0, 1, 2, 3, 8):
            yield wide_house_log(many, houses)
    yield house_log((5, 7, 11, 13, 17, 19), 3, (11, None), (19, 17))
    yield house_log((5, 7, 11, 13, 17, 19), 3, (19, 17))
    yield house_log((5, 7, 11, 13, 17, 19), 2, (19, 17))
    yield house_log((5, 7, 11, 13, 17, 19), 2, (19, 17), (13, 7))
    yield house_log((5, 7, 11, 13, 17, 19), 1, (7, None))
