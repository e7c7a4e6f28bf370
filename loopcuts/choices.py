"""Choices: all least cuts, the jumps in them, and what a price does to them."""

from loopcuts.codes import GREATEST_PRICE, is_jump_number
from loopcuts.covers import narrow_tallies, numbers_in
from loopcuts.errors import BadNumber
from loopcuts.loops import loops_by_parts

# So great that it stays above all costs, whatever the price of a jump is.
NEVER = 1000


def all_least(code):
    """Return the ascending tuple of all least cuts."""
    return tuple(sorted([numbers_in(mask) for mask in _least_masks(code)]))


def always(code):
    """Return the lot of the jumps that are in all least cuts."""
    masks = _least_masks(code)
    shared = masks[0]
    for mask in masks:
        shared &= mask
    return numbers_in(shared)


def sometimes(code):
    """Return the lot of the jumps that are in some least cuts."""
    taken = 0
    for mask in _least_masks(code):
        taken |= mask
    return numbers_in(taken)


def left_from(code, number):
    """Return the least price with which the jump is in no least cut, or None if there is none."""
    others, without = _least_costs(code, number)
    for price in range(GREATEST_PRICE + 1):
        if others + price > without:
            return price
    return None


def steps_of(code, number):
    """Return the tuple of the least costs with each price of the jump."""
    others, without = _least_costs(code, number)
    return tuple([min(others + price, without) for price in range(GREATEST_PRICE + 1)])


def _least_masks(code):
    """Return the list of the masks of all least cuts."""
    tallies = narrow_tallies(loops_by_parts(code))
    least = min([price for _, price in tallies])
    return [mask for mask, price in tallies if price == least]


def _least_costs(code, number):
    """Return the least costs of two sorts of narrow cuts, NEVER where there are none.

    The first ones have the jump, whose own price is not counted; the others
    have it not. So one look at the cuts is enough for all prices of the jump.
    """
    if not is_jump_number(code, number):
        raise BadNumber(number)
    tallies = narrow_tallies(loops_by_parts(code))
    having = min([price for mask, price in tallies if mask >> number & 1], default=NEVER)
    without = min([price for mask, price in tallies if not mask >> number & 1], default=NEVER)
    return (having - code.jumps[number][2], without)
