"""Plain reckonings after the words of the document, to compare the program with."""

import functools
import itertools

from widestparcels.log import Log
from widestparcels.road import Road
from widestparcels.widths import Widths

KINDS = tuple((losses, in_a_row) for losses in range(4) for in_a_row in (False, True))


def make_log(numbers, losses, in_a_row, *pairs):
    return Log(Road(Widths(*numbers), losses, in_a_row=in_a_row), *pairs)


def wide_log(many, losses, in_a_row, *pairs):
    """A log on a road with the widths 1, 2 and so on, so that a probe of n has n - 1 widths below it."""
    return make_log(range(1, many + 1), losses, in_a_row, *pairs)


def all_pairs(numbers, length):
    """All lists of so many pairs for a road with these widths."""
    single = [(probe, answered) for probe in numbers[1:] for answered in (True, False)]
    return itertools.product(single, repeat=length)


def all_logs(numbers, longest):
    """All logs of at most so many pairs, of all kinds of roads with these widths."""
    for losses, in_a_row in KINDS:
        for length in range(longest + 1):
            for pairs in all_pairs(numbers, length):
                yield make_log(numbers, losses, in_a_row, *pairs)


def need_at(log, width):
    """The need of the width, told by the runs of silence among the probes that are not greater."""
    if any(answered and probe > width for probe, answered in log.pairs):
        return None
    told = [answered for probe, answered in log.pairs if probe <= width]
    if log.road.in_a_row:
        runs = "".join("y" if answered else "n" for answered in told).split("y")
        most, need = max(len(run) for run in runs), len(runs[-1])
    else:
        most = need = told.count(False)
    return need if most <= log.road.losses else None


def needs_of(log):
    return {width: need_at(log, width) for width in log.road.widths.numbers}


def possible(log):
    return [width for width, need in needs_of(log).items() if need is not None]


def row_of(log):
    needs = list(needs_of(log).values())
    return tuple(needs.count(need) for need in range(log.road.losses + 1))


def rows(length, most):
    """All rows of this length whose sum is at most so much."""
    for row in itertools.product(range(most + 1), repeat=length):
        if 1 <= sum(row) <= most:
            yield row


def needs_in(row):
    """The needs of the single widths of the row, from the least width on."""
    return tuple(need for need, many in enumerate(row) for _ in range(many))


def row_from(needs, losses):
    return tuple(needs.count(need) for need in range(losses + 1))


def after_yes(needs, below, in_a_row):
    rest = needs[below:]
    return (0,) * len(rest) if in_a_row else rest


def after_no(needs, below, losses):
    more = tuple(need + 1 for need in needs[below:] if need < losses)
    return needs[:below] + more


@functools.lru_cache(maxsize=None)
def game(needs, losses, in_a_row, answer, silence):
    """The least greatest price of the game over the needs of the widths that can be."""
    if len(needs) == 1:
        return 0
    return min(dearer(needs, below, losses, in_a_row, answer, silence) for below in range(1, len(needs)))


def branches(needs, below, losses, in_a_row, answer, silence):
    yes = after_yes(needs, below, in_a_row)
    no = after_no(needs, below, losses)
    return (
        answer + game(yes, losses, in_a_row, answer, silence),
        silence + game(no, losses, in_a_row, answer, silence),
    )


def dearer(needs, below, losses, in_a_row, answer, silence):
    return max(branches(needs, below, losses, in_a_row, answer, silence))


def yes_row(row, below, in_a_row):
    return row_from(after_yes(needs_in(row), below, in_a_row), len(row) - 1)


def no_row(row, below):
    return row_from(after_no(needs_in(row), below, len(row) - 1), len(row) - 1)


def in_order(start, branches_of):
    """The start and all that comes of it by branches_of, in the order in which it is reached, each once."""
    found = [start]
    for row in found:
        found.extend(dict.fromkeys(branch for branch in branches_of(row) if branch not in found))
    return found


def reached(start, in_a_row, number_at):
    """The rows of sum 2 or more that are reached if number_at tells the number below, in their order."""

    def branches_of(row):
        if sum(row) == 1:
            return []
        return [yes_row(row, number_at(row), in_a_row), no_row(row, number_at(row))]

    return [row for row in in_order(start, branches_of) if sum(row) > 1]


def plain_courses(log, plan):
    """All courses of the plan in their order, told by the logs themselves."""
    can_be = possible(log)
    if len(can_be) == 1:
        return [[]]
    probe = can_be[plan[row_of(log)]]
    found = []
    for answered in (True, False):
        found += [[(probe, answered)] + course for course in plain_courses(log.told(probe, answered), plan)]
    return found


def paid(course, answer, silence):
    return sum(answer if answered else silence for _, answered in course)


def some_plan(chance, start, in_a_row):
    """A plan with numbers below by chance, which has just the rows that it reaches, in their order."""
    numbers = {}

    def number_at(row):
        if row not in numbers:
            numbers[row] = chance.randint(1, sum(row) - 1)
        return numbers[row]

    return {row: number_at(row) for row in reached(start, in_a_row, number_at)}


def some_logs():
    """Logs of all kinds of roads, with and without pairs; none is impossible."""
    for losses, in_a_row in KINDS:
        for many in (1, 2, 3, 5):
            yield wide_log(many, losses, in_a_row)
        for pairs in ([(3, True)], [(5, False)], [(5, False), (2, True), (9, False)], [(3, True), (5, False)]):
            yield make_log((1, 2, 3, 5, 9), losses, in_a_row, *pairs)
