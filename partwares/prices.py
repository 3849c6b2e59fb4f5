"""Prices: pairs (day, pence), by rising days."""

from partwares.bounds import LAST_DAY, MOST_PRICE
from partwares.words import is_number_in


def are_prices(thing):
    """Whether thing is a list or a tuple of pairs (day, pence) whose days rise, unlike."""
    if not isinstance(thing, (list, tuple)) or not all([is_price(pair) for pair in thing]):
        return False
    days = [day for day, pence in thing]
    return all([earlier < later for earlier, later in zip(days, days[1:])])


def is_price(thing):
    """Whether thing is a pair (day, pence)."""
    if not isinstance(thing, tuple) or len(thing) != 2:
        return False
    day, pence = thing
    return is_number_in(day, 0, LAST_DAY) and is_number_in(pence, 1, MOST_PRICE)


def price_on(prices, day):
    """The pence of the last price whose day isn't above this one, None of none."""
    told = None
    for begin, pence in prices:
        if begin <= day:
            told = pence
    return told


def falls_of(prices):
    """The list of those pairs whose pence are less than those of the pair ahead."""
    return [later for earlier, later in zip(prices, prices[1:]) if later[1] < earlier[1]]


def least_since(prices, begin, within):
    """The least price on the days from begin to begin and within, None where there's none on any."""
    told = [price_on(prices, day) for day in range(begin, begin + within + 1)]
    return min([pence for pence in told if pence is not None], default=None)
