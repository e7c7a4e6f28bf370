"""Lots that meet groups: each group has an item in the lot.

The items are numbers of jumps or names of places, a group is the items of a
loop, and prices are a dict with the price of each item.
"""


def meets(lot, group):
    """Tell whether the group has an item in the lot."""
    return any([item in lot for item in group])


def price_of(lot, prices):
    """Return the sum of the prices of the items of the lot."""
    return sum([prices[item] for item in lot])


def cheapest(lots, prices):
    """Return a lot with the least sum of prices."""
    return min(lots, key=lambda lot: price_of(lot, prices))


def narrow_lots(items, groups):
    """Return the ascending list of the lots that meet all groups and no longer do so without any one of their items."""
    bits = [1 << at for at in range(len(items))]
    misses = _misses(bits, [_mask_of(items, bits, group) for group in groups])
    found = []
    for mask, missing in enumerate(misses):
        inside = [bit for bit in bits if mask & bit]
        if not missing and all([misses[mask - bit] for bit in inside]):
            found.append(tuple([item for item, bit in zip(items, bits) if mask & bit]))
    return sorted(found)


def _mask_of(items, bits, group):
    """Return the sum of the bits of the items of the group."""
    return sum([bit for item, bit in zip(items, bits) if item in group])


def _misses(bits, groups):
    """Return a list that tells for each sum of bits whether it shares no bit with some group."""
    everything = sum(bits)
    misses = [False] * (everything + 1)
    for group in groups:
        misses[everything - group] = True
    # What is missed by a lot is missed by it without an item, too.
    for mask in reversed(range(everything + 1)):
        if misses[mask]:
            for bit in bits:
                if mask & bit:
                    misses[mask - bit] = True
    return misses
