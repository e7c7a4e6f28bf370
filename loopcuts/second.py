"""A second way to the least cost of a cut and to the doors, by places alone.

No loop, no folding and no lot of jumps is looked at here, so that what other
files tell by these can be held against it.
"""

from loopcuts.codes import places_reached


def least_cost_too(code):
    """Return the least cost of a cut.

    Jumps are a cut if the places can be put in a row such that all other jumps
    lead onwards. So the least cost is that of the jumps that do not, in the
    best row; the best rows of few places are continued by one place each time.
    """
    bits = {place: 1 << at for at, place in enumerate(code.places)}
    costs = [0]
    for row in range(1, 1 << len(bits)):
        lasts = [place for place in code.places if row & bits[place]]
        costs.append(min([costs[row - bits[last]] + _price_back(code, bits, row, last) for last in lasts]))
    return costs[-1]


def one_door_too(code):
    """Tell whether each loop has a door.

    A loop with a door has a jump to it, and nobody comes to the beginning of
    that jump but through its end. Without all such jumps no loop is left
    exactly if each loop has a door.
    """
    steps = [(begin, end) for begin, end, _ in code.jumps if not _is_behind(code, begin, end)]
    return not _go_round(steps)


def _price_back(code, bits, row, last):
    """Return the sum of the prices of the jumps from the last place of a row to any place of it."""
    return sum([price for begin, end, price in code.jumps if begin == last and row & bits[end]])


def _is_behind(code, place, other):
    """Tell whether each way from the code's door to the place comes to the other place."""
    if other == code.door:
        return True
    return place not in places_reached(code.door, [jump for jump in code.jumps if jump[1] != other])


def _go_round(steps):
    """Tell whether there is a loop of steps, which are pairs (from, to)."""
    many = len(steps) + 1
    while len(steps) < many:
        many = len(steps)
        ends = [end for _, end in steps]
        # No loop has a step that begins where none ends.
        steps = [(begin, end) for begin, end in steps if begin in ends]
    return many > 0
