"""Roads with houses whose widths are given: what probes bring there, and how the width is found."""

from widestparcels.errors import BadNumber
from widestparcels.houses import MOST_HOUSES, HouseLog, told_probe
from widestparcels.words import check_number


def through(widths, stand, probe):
    """Return what the probe brings: the width that a house tells, or None if it is answered."""
    _check_stand(widths, stand)
    if probe not in widths:
        raise BadNumber("probe", probe)
    return _brought(stand, probe)


def true_width(widths, stand):
    """Return the width of the road on which these houses stand."""
    _check_stand(widths, stand)
    if len(stand) == 0:
        return _greatest(widths)
    # Beside a class with an order, min takes only what is plainly numbers.
    return min([int(house) for house in stand])


def find(widths, houses, stand):
    """Send told_probe again and again until the width is known, and return the house log at the end."""
    check_number("houses", houses, 0, MOST_HOUSES)
    _check_stand(widths, stand)
    check_number("houses", len(stand), 0, houses)
    houselog = HouseLog(widths, houses)
    while houselog.known() is None:
        probe = told_probe(houselog)
        houselog = houselog.told(probe, _brought(stand, probe))
    return houselog


def _check_stand(widths, stand):
    check_number("houses", len(stand), 0, MOST_HOUSES)
    for house in stand:
        if house not in widths or house == _greatest(widths):
            raise BadNumber("house", house)


def _greatest(widths):
    return widths[len(widths) - 1]


def _brought(stand, probe):
    for house in stand:
        if house < probe:
            return house
    return None
