"""Packs: loops that are each taken some times, as often as prices let."""

from loopcuts.covers import cheapest, price_of
from loopcuts.kinds import is_ascending, is_integer, is_pair
from loopcuts.loops import is_loop


def are_loops_with_times(code, thing):
    """Tell whether any value is a tuple of pairs (loop, times), the loops ascending."""
    if not isinstance(thing, tuple) or not all([_is_loop_with_times(code, pair) for pair in thing]):
        return False
    return is_ascending([loop for loop, _ in thing])


def are_within(groups, prices):
    """Tell whether the times of the groups (group, times) that share an item are at most its price."""
    for item, price in prices.items():
        if sum([times for group, times in groups if item in group]) > price:
            return False
    return True


def size_of(pack):
    """Return the sum of all times of the pack."""
    return sum([times for _, times in pack])


def greatest_pack(names, groups, lots, prices):
    """Return the greatest pack: pairs of the name of a group and how often the group is taken.

    The lots are all that meet each group and no longer do so without an item.
    Told is that the greatest size is the least price of a lot, whatever the
    prices are. So a group is part of a greatest pack as often as this price
    falls by one each time that one is taken off the prices of the group.
    """
    left = dict(prices)
    pack = []
    for name, group in zip(names, groups):
        times = _times_of(group, lots, left)
        if times > 0:
            pack.append((name, times))
        for item in group:
            left[item] -= times
    return tuple(pack)


def _is_loop_with_times(code, thing):
    """Tell whether any value is a pair of a loop and an integer from 1 on."""
    if not is_pair(thing):
        return False
    loop, times = thing
    return is_loop(code, loop) and is_integer(times) and times >= 1


def _times_of(group, lots, prices):
    """Return how often the group can be taken, the least price of a lot falling by one each time."""
    least = price_of(cheapest(lots, prices), prices)
    times = min([prices[item] for item in group])
    for lot in lots:
        shared = len([item for item in group if item in lot])
        # The price of such a lot falls faster, until it is the least one.
        if shared > 1:
            times = min(times, (price_of(lot, prices) - least) // (shared - 1))
    return times
