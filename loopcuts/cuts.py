"""Cuts: lots of jumps that meet all loops, their costs, and packs that match them."""

from loopcuts.covers import cheapest, meets, narrow_tallies, numbers_in, price_of
from loopcuts.doors import doors_paper, one_door
from loopcuts.errors import BadLot, BadPaper, NoCut, SeveralDoors
from loopcuts.kinds import is_ascending
from loopcuts.loops import are_jump_numbers, loops, loops_by_parts
from loopcuts.packs import are_loops_with_times, are_within, greatest_pack, size_of


def is_cut(code, lot):
    """Tell whether each loop has a jump in the lot."""
    check_lot(code, lot)
    return unmet_loop(code, lot) is None


def cost(code, lot):
    """Return the sum of the prices of the jumps of the lot."""
    check_lot(code, lot)
    return price_of(lot, prices_of(code))


def least_cost(code):
    """Return the least cost of a cut."""
    return cost(code, least_cut(code))


def least_cut(code):
    """Return a cut with the least cost."""
    return cheapest(narrow_cuts(code), prices_of(code))


def least_within(code, lot):
    """Return a cut with the least cost of all within the lot."""
    check_cut(code, lot)
    within = [cut for cut in narrow_cuts(code) if all([number in lot for number in cut])]
    return cheapest(within, prices_of(code))


def is_pack(code, thing):
    """Tell whether any value is a pack."""
    return are_loops_with_times(code, thing) and are_within(thing, prices_of(code))


def paper(code):
    """Return a cut and a pack, the cost of the one being the size of the other."""
    if not one_door(code):
        raise SeveralDoors(doors_paper(code))
    found = loops(code)
    return (least_cut(code), greatest_pack(found, found, narrow_cuts(code), prices_of(code)))


def check(code, cut, pack):
    """Return the number that is both the cost of the cut and the size of the pack."""
    if not is_lot(code, cut) or not is_cut(code, cut):
        raise BadPaper("cut")
    if not is_pack(code, pack):
        raise BadPaper("pack")
    if cost(code, cut) != size_of(pack):
        raise BadPaper("number")
    return size_of(pack)


def is_lot(code, value):
    """Tell whether any value is a lot of jumps."""
    return are_jump_numbers(code, value) and is_ascending(value)


def check_lot(code, value):
    """Refuse any value that is no lot of jumps."""
    if not is_lot(code, value):
        raise BadLot(value)


def check_cut(code, value):
    """Refuse any value that is no lot of jumps, then any that is no cut."""
    check_lot(code, value)
    unmet = unmet_loop(code, value)
    if unmet is not None:
        raise NoCut(unmet)


def unmet_loop(code, lot):
    """Return a loop without a jump in the lot, or None if there is none."""
    for loop in loops(code):
        if not meets(lot, loop):
            return loop
    return None


def narrow_cuts(code):
    """Return the ascending list of the cuts that are none without any one of their jumps."""
    return sorted([numbers_in(mask) for mask, _ in narrow_tallies(loops_by_parts(code))])


def prices_of(code):
    """Return the price of each jump by its number."""
    return {number: jump[2] for number, jump in enumerate(code.jumps)}
