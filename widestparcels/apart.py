"""How many widths can be told apart for a cost."""

from widestparcels.costs import Costs
from widestparcels.errors import BadNumber
from widestparcels.words import check_number

GREATEST_COST = 10000


def apart(v, prices):
    """Return the greatest number of widths that can be told apart without losses for at most v."""
    check_number("cost", v, 0, GREATEST_COST)
    if prices.answer == 0 or prices.silence == 0:
        raise BadNumber("prices", 0)
    # Beside a class with an order, max takes only what is plainly numbers.
    least = max(int(prices.answer), int(prices.silence))
    # The numbers for the costs 0, 1 and so on: with less than one of the prices no probe can be paid.
    numbers = [1] * least
    for cost in range(least, v + 1):
        numbers.append(numbers[cost - prices.answer] + numbers[cost - prices.silence])
    return numbers[v]


def most_apart(road, prices, v):
    """Return the greatest number of widths, at most those of the road, that cost at most v from the start."""
    check_number("cost", v, 0, None)
    costs = Costs(road.losses, prices, in_a_row=road.in_a_row)
    number = len(road.widths)
    # This ends, because one width alone costs 0.
    while costs((number,) + (0,) * road.losses) > v:
        number -= 1
    return number


def to_strike(road, prices, v):
    """Return the number of widths that must at least be struck from the road's list so that v is enough."""
    return len(road.widths) - most_apart(road, prices, v)
