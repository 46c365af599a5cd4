"""Plans for roads with houses, and certificates that fewer probes are not enough.

A state is a pair (number, left): so many widths can be, and so many houses are left.
"""

from widestparcels.errors import BadPaper, BadPlan
from widestparcels.houses import least_number, told_below
from widestparcels.words import check_number, is_integer


def check_house_plan(houselog, plan):
    """Return the greatest number of probes that the plan sends until the width is known."""
    start = _state(houselog)
    numbers = _reached_numbers(start, lambda state: _number(plan, state))
    return _most_probes(start, numbers, {})


def told_house_plan(houselog):
    """Return the plan that sends told_probe again and again: all states that it reaches, in their order."""
    return _reached_numbers(_state(houselog), lambda state: told_below(state[0], state[1]))


def check_house_paper(houselog, v, pairs):
    """Return True if the pairs are a certificate that at least v probes are needed."""
    check_number("probes", v, 0, None)
    start = _state(houselog)
    stated = _greatest_counts(start, pairs)
    for place, (state, count) in enumerate(pairs):
        if not _is_right_state(start, state):
            raise BadPaper(place, "state")
        if not _is_right_count(count):
            raise BadPaper(place, "number")
        if count > 0 and state[0] == 1:
            raise BadPaper(place, "one")
        if count > 1 and not _has_steps(state, count, stated):
            raise BadPaper(place, "step")
    if start not in stated or stated[start] < v:
        raise BadPaper(len(pairs), "start")
    return True


def house_paper(houselog):
    """Return a certificate for least_probes: all states that can come, with their least numbers of probes."""
    states = _states_that_come(_state(houselog))
    return [((number, left), least_number(number, left)) for number, left in states]


def _state(houselog):
    return (len(houselog.can_be()), houselog.houses_left())


def _branches(state, below):
    """Return the list of the states that follow: the answered one, then the told ones by ascending number."""
    number, left = state
    answered = (number - below, left)
    if left == 1:
        return [answered, (1, 0)]
    return [answered] + [(kept, left - 1) for kept in range(1, below + 1)]


def _reached_numbers(start, number_at):
    """Return the number below of each reached state of two widths or more, in their order."""
    numbers = {}
    states = [start]
    at = 0
    while at < len(states):
        state = states[at]
        at += 1
        if state[0] > 1 and state not in numbers:
            numbers[state] = number_at(state)
            states.extend(_branches(state, numbers[state]))
    return numbers


def _states_that_come(start):
    """Return the list of all states that come from the first one by any numbers below, each once."""
    states = [start]
    seen = {start}
    at = 0
    while at < len(states):
        state = states[at]
        at += 1
        for below in range(1, state[0]):
            for branch in _branches(state, below):
                if branch not in seen:
                    seen.add(branch)
                    states.append(branch)
    return states


def _number(plan, state):
    if state not in plan:
        raise BadPlan(state, "lacks")
    below = plan[state]
    if not is_integer(below) or not 1 <= below < state[0]:
        raise BadPlan(state, "below")
    return below


def _most_probes(state, numbers, found):
    """Return the greatest number of probes from a reached state on; found keeps what is reckoned."""
    # At most 24 calls deep: each probe leaves fewer widths.
    if state[0] == 1:
        return 0
    if state not in found:
        branches = _branches(state, numbers[state])
        # Beside a class with an order, max takes only what is plainly numbers.
        found[state] = 1 + max([int(_most_probes(branch, numbers, found)) for branch in branches])
    return found[state]


def _is_right_state(start, state):
    if not isinstance(state, tuple) or len(state) != 2:
        return False
    number, left = state
    if not is_integer(number) or not is_integer(left):
        return False
    if not 1 <= number <= start[0] or not 0 <= left <= start[1]:
        return False
    return number == 1 or left >= 1


def _is_right_count(count):
    return is_integer(count) and count >= 0


def _greatest_counts(start, pairs):
    """Return for each state the greatest count that counts for a step."""
    stated = {}
    for state, count in pairs:
        if _is_right_state(start, state) and _is_right_count(count):
            if state not in stated or stated[state] < count:
                stated[state] = count
    return stated


def _has_steps(state, count, stated):
    """Tell whether each number below leads to a state that needs at least all probes but one."""
    for below in range(1, state[0]):
        # Here at least one probe is left, so that a state that is not stated is never enough.
        if all([stated.get(branch, 0) < count - 1 for branch in _branches(state, below)]):
            return False
    return True
