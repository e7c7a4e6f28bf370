"""Spots: lots of places that meet all loops, by prices of the places."""

from loopcuts.codes import is_place, is_price
from loopcuts.covers import cheapest, meets, narrow_lots, price_of
from loopcuts.doors import doors_paper, one_door
from loopcuts.errors import BadNumber, BadPaper, SeveralDoors
from loopcuts.kinds import is_ascending
from loopcuts.loops import loops, places_of
from loopcuts.packs import are_loops_with_times, are_within, greatest_pack, size_of


def least_spots(code, prices):
    """Return a lot of places that meets all loops with the least sum of prices."""
    _check_prices(code, prices)
    return cheapest(_narrow_spots(code), _prices_by_place(code, prices))


def spots_cost(code, prices):
    """Return the least sum of prices of a lot of places that meets all loops."""
    return price_of(least_spots(code, prices), _prices_by_place(code, prices))


def spots_paper(code, prices):
    """Return a lot of places that meets all loops and a set of loops, of the same size."""
    _check_prices(code, prices)
    if not one_door(code):
        raise SeveralDoors(doors_paper(code))
    by_place = _prices_by_place(code, prices)
    taken = greatest_pack(loops(code), _places_of_loops(code), _narrow_spots(code), by_place)
    return (least_spots(code, prices), taken)


def check_spots(code, prices, lot, thing):
    """Return the number that is both the sum of prices of the lot and the size of the set of loops."""
    _check_prices(code, prices)
    by_place = _prices_by_place(code, prices)
    if not _is_lot_that_meets_all(code, lot):
        raise BadPaper("lot")
    if not _is_set_of_loops(code, by_place, thing):
        raise BadPaper("set")
    if price_of(lot, by_place) != size_of(thing):
        raise BadPaper("number")
    return size_of(thing)


def _check_prices(code, value):
    """Refuse any value that is no prices of the places."""
    if not isinstance(value, tuple) or len(value) != len(code.places):
        raise BadNumber(value)
    if not all([is_price(price) for price in value]):
        raise BadNumber(value)


def _prices_by_place(code, prices):
    """Return the price of each place by its name."""
    return {place: price for place, price in zip(code.places, prices)}


def _places_of_loops(code):
    """Return the list of the places of each loop."""
    return [places_of(code, loop) for loop in loops(code)]


def _narrow_spots(code):
    """Return the ascending list of the lots of places that meet all loops and do not without any one of theirs."""
    return narrow_lots(code.places, _places_of_loops(code))


def _is_lot_that_meets_all(code, value):
    """Tell whether any value is a lot of places that meets all loops."""
    if not isinstance(value, tuple) or not all([is_place(code.places, place) for place in value]):
        return False
    return is_ascending(value) and all([meets(value, group) for group in _places_of_loops(code)])


def _is_set_of_loops(code, prices, thing):
    """Tell whether any value is a set of loops by the prices of the places."""
    if not are_loops_with_times(code, thing):
        return False
    return are_within([(places_of(code, loop), times) for loop, times in thing], prices)
