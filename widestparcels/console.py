"""The console: lines of words that work on a search, and an answer to each line."""

from widestparcels.best import extras
from widestparcels.errors import BadNumber, BadPair, Impossible, NothingToUndo, TooMany
from widestparcels.live import Search
from widestparcels.texts import ANSWERS, tells_number


def _tell(search, probe, answer):
    search.tell(int(probe), ANSWERS[answer])
    return "done"


def _undo(search):
    search.undo()
    return "done"


def _can(search):
    return _side_by_side(search.log.can_be())


def _cost(search):
    return str(search.left())


def _spent(search):
    return str(search.spent())


def _best(search):
    probes = search.advice()
    if len(probes) == 0:
        return _known(search)
    return _side_by_side(probes)


def _row(search):
    return ",".join([str(number) for number in search.log.row()])


def _sure(search, probe):
    answered = search.log.surely(int(probe))
    if answered is None:
        return "open"
    return "yes" if answered else "no"


def _table(search):
    lines = [f"{probe:>6}{extra:>5}" for probe, extra in extras(search.log, search.prices)]
    if len(lines) == 0:
        return _known(search)
    return "\n".join(lines)


def _known(search):
    return f"known {search.log.known()}"


def _side_by_side(numbers):
    return " ".join([str(number) for number in numbers])


ACTIONS = {
    "tell": _tell,
    "undo": _undo,
    "can": _can,
    "cost": _cost,
    "spent": _spent,
    "best": _best,
    "row": _row,
    "sure": _sure,
    "table": _table,
}
# How many words a line has; those that are not listed stand alone.
LENGTHS = {"tell": 3, "sure": 2}


def console(road, prices, lines):
    """Return the list of the answers to the lines, which work on one search after the other."""
    search = Search(road, prices)
    answers = []
    for line in lines:
        answers.append(_answer(search, line.split(" ")))
    return answers


def _answer(search, words):
    if words[0] not in ACTIONS:
        return "unknown"
    if not _has_form(words):
        return "form"
    action = ACTIONS[words[0]]
    rest = words[1:]
    try:
        return action(search, *rest)
    except BadPair:
        return "pair"
    except BadNumber:
        return "number"
    except TooMany:
        return "many"
    except Impossible:
        return "impossible"
    except NothingToUndo:
        return "nothing"


def _has_form(words):
    """Tell whether a command has its words: behind it a number, behind that an answer."""
    if len(words) != LENGTHS.get(words[0], 1):
        return False
    if len(words) > 1 and not tells_number(words[1]):
        return False
    return len(words) < 3 or words[2] in ANSWERS
