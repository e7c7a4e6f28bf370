"""Choices: all least cuts, the jumps in them, and what a price does to them."""

from loopcuts.codes import GREATEST_PRICE
from loopcuts.covers import cheapest, price_of
from loopcuts.cuts import narrow_cuts, prices_of


def all_least(code):
    """Return the ascending tuple of all least cuts."""
    return tuple(_least_of(narrow_cuts(code), prices_of(code)))


def always(code):
    """Return the lot of the jumps that are in all least cuts."""
    cuts = all_least(code)
    return tuple([number for number in range(len(code)) if all([number in cut for cut in cuts])])


def sometimes(code):
    """Return the lot of the jumps that are in some least cuts."""
    cuts = all_least(code)
    return tuple([number for number in range(len(code)) if any([number in cut for cut in cuts])])


def left_from(code, number):
    """Return the least price with which the jump is in no least cut, or None if there is none."""
    cuts = narrow_cuts(code)
    for price, prices in enumerate(_prices_with_each(code, number)):
        if not any([number in cut for cut in _least_of(cuts, prices)]):
            return price
    return None


def steps_of(code, number):
    """Return the tuple of the least costs with each price of the jump."""
    cuts = narrow_cuts(code)
    return tuple([price_of(cheapest(cuts, prices), prices) for prices in _prices_with_each(code, number)])


def _least_of(lots, prices):
    """Return those of the lots that have the least sum of prices."""
    least = price_of(cheapest(lots, prices), prices)
    return [lot for lot in lots if price_of(lot, prices) == least]


def _prices_with_each(code, number):
    """Return the prices of all jumps, once with each price that the jump can have."""
    # priced refuses any value that is no number of a jump.
    return [prices_of(code.priced(number, price)) for price in range(GREATEST_PRICE + 1)]
