"""Looking back: what a log can have been when some answers are forgotten."""

from widestparcels.errors import BadPair, TooMany
from widestparcels.log import MOST_PAIRS, Log, is_answer, is_probe

MOST_FORGOTTEN = 10


def fillings(road, pairs):
    """Return the list of the logs that are not impossible, with each None filled in, False before True."""
    _check_pairs(road, pairs)
    filled = [[]]
    for probe, answered in pairs:
        answers = (answered,)
        if answered is None:
            answers = (False, True)
        filled = [[*told, (probe, answer)] for told in filled for answer in answers]
    logs = [Log(road, *told) for told in filled]
    return [log for log in logs if not log.is_impossible()]


def possible_widths(road, pairs):
    """Return the list of the widths that can be in at least one of the fillings, ascending."""
    found = {}
    for log in fillings(road, pairs):
        for width in log.can_be():
            found[width] = True
    return [width for width in road.widths if width in found]


def _check_pairs(road, pairs):
    for place, (probe, answered) in enumerate(pairs):
        if not is_probe(road, probe) or not _may_stand(answered):
            raise BadPair(place)
    if len(pairs) > MOST_PAIRS:
        raise TooMany(MOST_PAIRS)
    forgotten = [probe for probe, answered in pairs if answered is None]
    if len(forgotten) > MOST_FORGOTTEN:
        raise TooMany(MOST_FORGOTTEN)


def _may_stand(answered):
    return answered is None or is_answer(answered)
