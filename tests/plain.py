"""Plain reckonings after the words of the document, to compare the program with."""

import functools
import itertools

from widestparcels.log import Log
from widestparcels.road import Road
from widestparcels.widths import Widths

KINDS = tuple((losses, in_a_row) for losses in range(4) for in_a_row in (False, True))


def make_log(numbers, losses, in_a_row, *pairs):
    return Log(Road(Widths(*numbers), losses, in_a_row=in_a_row), *pairs)


def wide_log(many, losses, in_a_row, *pairs):
    """A log on a road with the widths 1, 2 and so on, so that a probe of n has n - 1 widths below it."""
    return make_log(range(1, many + 1), losses, in_a_row, *pairs)


def all_pairs(numbers, length):
    """All lists of so many pairs for a road with these widths."""
    single = [(probe, answered) for probe in numbers[1:] for answered in (True, False)]
    return itertools.product(single, repeat=length)


def all_logs(numbers, longest):
    """All logs of at most so many pairs, of all kinds of roads with these widths."""
    for losses, in_a_row in KINDS:
        for length in range(longest + 1):
            for pairs in all_pairs(numbers, length):
                yield make_log(numbers, losses, in_a_row, *pairs)


def need_at(log, width):
    """The need of the width, told by the runs of silence among the probes that are not greater."""
    if any(answered and probe > width for probe, answered in log.pairs):
        return None
    told = [answered for probe, answered in log.pairs if probe <= width]
    if log.road.in_a_row:
        runs = "".join("y" if answered else "n" for answered in told).split("y")
        most, need = max(len(run) for run in runs), len(runs[-1])
    else:
        most = need = told.count(False)
    return need if most <= log.road.losses else None


def needs_of(log):
    return {width: need_at(log, width) for width in log.road.widths.numbers}


def possible(log):
    return [width for width, need in needs_of(log).items() if need is not None]


def row_of(log):
    needs = list(needs_of(log).values())
    return tuple(needs.count(need) for need in range(log.road.losses + 1))


def rows(length, most):
    """All rows of this length whose sum is at most so much."""
    for row in itertools.product(range(most + 1), repeat=length):
        if 1 <= sum(row) <= most:
            yield row


def needs_in(row):
    """The needs of the single widths of the row, from the least width on."""
    return tuple(need for need, many in enumerate(row) for _ in range(many))


def row_from(needs, losses):
    return tuple(needs.count(need) for need in range(losses + 1))


def after_yes(needs, below, in_a_row):
    rest = needs[below:]
    return (0,) * len(rest) if in_a_row else rest


def after_no(needs, below, losses):
    more = tuple(need + 1 for need in needs[below:] if need < losses)
    return needs[:below] + more


@functools.lru_cache(maxsize=None)
def game(needs, losses, in_a_row, answer, silence):
    """The least greatest price of the game over the needs of the widths that can be."""
    if len(needs) == 1:
        return 0
    return min(dearer(needs, below, losses, in_a_row, answer, silence) for below in range(1, len(needs)))


def branches(needs, below, losses, in_a_row, answer, silence):
    yes = after_yes(needs, below, in_a_row)
    no = after_no(needs, below, losses)
    return (
        answer + game(yes, losses, in_a_row, answer, silence),
        silence + game(no, losses, in_a_row, answer, silence),
    )


def dearer(needs, below, losses, in_a_row, answer, silence):
    return max(branches(needs, below, losses, in_a_row, answer, silence))
