"""Loops and ways of a code, as tuples of numbers of its jumps."""

from loopcuts.codes import is_jump_number
from loopcuts.errors import BadLoop


def loops(code):
    """Return the ascending tuple of all loops of the code."""
    found = []
    for number in range(len(code)):
        found.extend(_loops_that_begin(code, (number,)))
    return tuple(found)


def loops_by_parts(code):
    """Return the list of all loops as tuples of parts, alike jumps, whatever their prices, being one part.

    A part is the pair (mask, price) of all jumps from a place to another one:
    the sum of their bits, 1 << number each, and the sum of their prices. A cut
    that needs one of them needs all, for each can stand in a loop in place of
    another one.
    """
    parts = _parts_by_place(code)
    found = []
    # Of the places of a loop the least one is the first one here.
    for first in sorted({end for begin, end, _ in code.jumps if end <= begin}):
        trails = [(first, (), ())]
        while trails:
            place, stops, trail = trails.pop()
            for end, part in parts[place].items():
                if end == first:
                    found.append(trail + (part,))
                elif end > first and end not in stops:
                    trails.append((end, stops + (end,), trail + (part,)))
    return found


def is_loop(code, thing):
    """Tell whether any value is a loop of the code."""
    if not are_jump_numbers(code, thing) or len(thing) == 0:
        return False
    begins = begins_of(code, thing)
    ends = ends_of(code, thing)
    closed = begins == ends[-1:] + ends[:-1]
    return closed and _each_once(begins) and thing[0] == min(thing)


def places_of(code, loop):
    """Return the ascending tuple of the places of a loop."""
    if not is_loop(code, loop):
        raise BadLoop(loop)
    return tuple(sorted(begins_of(code, loop)))


def is_way(code, one, other, thing):
    """Tell whether any value is a way from one place to the other."""
    if not are_jump_numbers(code, thing):
        return False
    stops = [one] + ends_of(code, thing)
    return stops == begins_of(code, thing) + [other] and _each_once(stops)


def are_jump_numbers(code, thing):
    """Tell whether any value is a tuple of numbers of jumps of the code."""
    return isinstance(thing, tuple) and all([is_jump_number(code, number) for number in thing])


def begins_of(code, numbers):
    """Return the list of the places at which the jumps begin."""
    return [code.jumps[number][0] for number in numbers]


def ends_of(code, numbers):
    """Return the list of the places at which the jumps end."""
    return [code.jumps[number][1] for number in numbers]


def _parts_by_place(code):
    """Return for each place a dict of the parts that begin there, by the places at which they end."""
    parts = {place: {} for place in code.places}
    for number, (begin, end, price) in enumerate(code.jumps):
        mask, whole = parts[begin].get(end, (0, 0))
        parts[begin][end] = (mask | 1 << number, whole + price)
    return parts


def _each_once(places):
    """Tell whether no place stands twice in the list."""
    return len(set(places)) == len(places)


def _loops_that_begin(code, trail):
    """Return the ascending list of the loops that begin with the trail."""
    begins = begins_of(code, trail)
    end = code.jumps[trail[-1]][1]
    if end == begins[0]:
        return [trail]
    if end in begins:
        return []
    found = []
    # The least number of a loop comes first, so all further ones are greater.
    for number in range(trail[0] + 1, len(code)):
        if code.jumps[number][0] == end:
            found.extend(_loops_that_begin(code, trail + (number,)))
    return found
