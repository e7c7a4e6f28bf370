"""Lots that meet groups: each group has an item in the lot.

The items are numbers of jumps or names of places, a group is the items of a
loop, and prices are a dict with the price of each item.

A tally of items is a pair (mask, price): the sum of their bits, 1 << number
each, and the sum of their prices. Lots are found as tallies, because these
take little time to put together and to hold against one another.
"""


def meets(lot, group):
    """Tell whether the group has an item in the lot."""
    return any([item in lot for item in group])


def price_of(lot, prices):
    """Return the sum of the prices of the items of the lot."""
    return sum([prices[item] for item in lot])


def cheapest(lots, prices):
    """Return a lot with the least sum of prices."""
    return min(lots, key=lambda lot: price_of(lot, prices))


def narrow_lots(items, groups):
    """Return the ascending list of the lots that meet all groups and no longer do so without any one of their items."""
    # Prices do not matter to which lots these are.
    parts = {item: (1 << number, 0) for number, item in enumerate(items)}
    tallies = narrow_tallies([tuple([parts[item] for item in group]) for group in sorted(set(groups))])
    return sorted([tuple([items[number] for number in numbers_in(mask)]) for mask, _ in tallies])


def narrow_tallies(groups):
    """Return the list of the tallies of the lots that meet all groups and no longer do so without any one part.

    A group is a tuple of parts: tallies of items that are always taken
    together. The lots are told for the first group, then with one group more
    each time: a lot that misses the further group needs one part of it.
    """
    tallies = [(0, 0)]
    for group in sorted(groups, key=len):
        whole = sum([mask for mask, _ in group])
        met = [tally for tally in tallies if tally[0] & whole]
        grown = [(mask | part, price + further) for mask, price in tallies if not mask & whole
                 for part, further in group]
        tallies = met + _needed(grown, met)
    return tallies


def numbers_in(mask):
    """Return the ascending tuple of the numbers whose bits are in the mask."""
    return tuple([number for number in range(mask.bit_length()) if mask >> number & 1])


def _needed(tallies, others):
    """Return the list of those tallies that have no other one within them."""
    if len(others) == 0:
        return tallies
    return [tally for tally in tallies if not _is_one_within(others, tally[0])]


def _is_one_within(tallies, whole):
    """Tell whether the mask of one of the tallies has no bit that the whole has not."""
    for mask, _ in tallies:
        if mask & whole == mask:
            return True
    return False
