"""The promises by their words: slow looks at all ways, all lots and all foldings."""

import re
from functools import lru_cache
from itertools import combinations, product

A_WORD = "[a-z]{1,8}"
A_PLACES_LINE = "places( " + A_WORD + "){1,7}"
A_JUMP_LINE = A_WORD + " " + A_WORD + " (0|[1-9]|1[0-9]|20)"


def is_number(value):
    return isinstance(value, int) and not isinstance(value, bool)


def stops_of(code, begin, numbers):
    """Return the places that are come to from a place on, or None if a jump begins elsewhere."""
    stops = [begin]
    for number in numbers:
        if code.jumps[number][0] != stops[-1]:
            return None
        stops.append(code.jumps[number][1])
    return stops


def ways_from(code, begin):
    """Return all ways from a place, as pairs of the way and the places that it comes to."""
    return ways_of_steps([jump[:2] for jump in code.jumps], begin)


def ways_of_steps(steps, begin):
    ways = [((), [begin])]
    for way, stops in ways:
        for number, (one, other) in enumerate(steps):
            if one == stops[-1] and other not in stops:
                ways.append((way + (number,), stops + [other]))
    return ways


def loops_by_words(code):
    """Return the ascending list of all loops; the prices do not matter to it."""
    return list(loops_of_steps(code.places, tuple([jump[:2] for jump in code.jumps])))


@lru_cache(maxsize=None)
def loops_of_steps(places, steps):
    found = set()
    for begin in places:
        for way, stops in ways_of_steps(steps, begin):
            for number, step in enumerate(steps):
                loop = way + (number,)
                if step == (stops[-1], begin) and loop[0] == min(loop):
                    found.add(loop)
    return sorted(found)


def places_by_words(code, loop):
    return sorted([code.jumps[number][0] for number in loop])


def door_by_words(code, loop):
    """Return the place to which each way comes first, of those that come to the loop."""
    places = places_by_words(code, loop)
    first = [[stop for stop in stops if stop in places][0] for _, stops in ways_from(code, code.door)
             if set(stops) & set(places)]
    doors = [place for place in places if all([stop == place for stop in first])]
    return doors[0] if doors else None


def one_door_by_words(code):
    return all([door_by_words(code, loop) is not None for loop in loops_by_words(code)])


def foldings_by_words(code, foldings):
    """Return what of the foldings is wrong, or None."""
    if not isinstance(foldings, tuple):
        return "folding"
    lumps = {place: {place} for place in code.places}
    for pair in foldings:
        if not isinstance(pair, tuple) or len(pair) != 2 or not all([isinstance(name, str) for name in pair]):
            return "folding"
        place, other = pair
        if place not in lumps or other not in lumps or place == other or code.door in lumps[place]:
            return "folding"
        for begin, end, _ in code.jumps:
            if end in lumps[place] and begin not in lumps[place] | lumps[other]:
                return "folding"
        lumps[other] |= lumps.pop(place)
    return None if len(lumps) == 1 else "lumps"


def is_in(value, rows):
    """Tell whether the value is one of the tuples of numbers, True and False being none."""
    return isinstance(value, tuple) and all([is_number(part) for part in value]) and value in rows


def ways_wrong_by_words(code, loop, way, other):
    """Return what of the loop and the two ways to it is wrong, or None."""
    if not is_in(loop, loops_by_words(code)):
        return "loop"
    places = places_by_words(code, loop)
    ends = {one: stops[-1] for one, stops in ways_from(code, code.door)
            if [stop for stop in stops if stop in places] == stops[-1:]}
    if not is_in(way, list(ends)):
        return "way"
    if not is_in(other, list(ends)) or ends[way] == ends[other]:
        return "other"
    return None


def doors_by_words(code, paper):
    """Return what of a paper on the doors is wrong, or None."""
    if not isinstance(paper, tuple) or len(paper) == 0 or not isinstance(paper[0], str):
        return "form"
    if len(paper) == 2 and paper[0] == "one":
        return foldings_by_words(code, paper[1])
    if len(paper) == 4 and paper[0] == "several":
        return ways_wrong_by_words(code, *paper[1:])
    return "form"


def lots_of(items):
    """Return the ascending list of all lots of the items."""
    return sorted([lot for many in range(len(items) + 1) for lot in combinations(items, many)])


def lots_by_words(code):
    return lots_of(range(len(code.jumps)))


def cost_by_words(code, lot):
    return sum([code.jumps[number][2] for number in lot])


def is_cut_by_words(code, lot):
    return all([set(loop) & set(lot) for loop in loops_by_words(code)])


def cuts_by_words(code):
    loops = [set(loop) for loop in loops_by_words(code)]
    return [lot for lot in lots_by_words(code) if all([loop & set(lot) for loop in loops])]


def least_cost_by_words(code):
    return min([cost_by_words(code, cut) for cut in cuts_by_words(code)])


def least_cuts_by_words(code):
    cuts = cuts_by_words(code)
    least = min([cost_by_words(code, cut) for cut in cuts])
    found = []
    for cut in cuts:
        less = [cut[:at] + cut[at + 1:] for at in range(len(cut))]
        if cost_by_words(code, cut) == least and not any([lot in cuts for lot in less]):
            found.append(cut)
    return tuple(found)


def is_taken_by_words(code, thing, prices, items_of):
    """Tell whether any value is a pack, or a set of loops, by the prices of its items."""
    if not isinstance(thing, tuple):
        return False
    used = {item: 0 for item in prices}
    ahead = ()
    for pair in thing:
        if not isinstance(pair, tuple) or len(pair) != 2:
            return False
        loop, times = pair
        if not is_in(loop, loops_by_words(code)) or not is_number(times) or times < 1 or loop <= ahead:
            return False
        ahead = loop
        for item in items_of(code, loop):
            used[item] += times
    return all([used[item] <= prices[item] for item in prices])


def is_pack_by_words(code, thing):
    prices = {number: jump[2] for number, jump in enumerate(code.jumps)}
    return is_taken_by_words(code, thing, prices, lambda code, loop: loop)


def is_set_by_words(code, prices, thing):
    return is_taken_by_words(code, thing, dict(zip(code.places, prices)), places_by_words)


def spots_by_words(code):
    """Return all lots of places that meet all loops."""
    groups = [set(places_by_words(code, loop)) for loop in loops_by_words(code)]
    return [lot for lot in lots_of(code.places) if all([group & set(lot) for group in groups])]


def spots_cost_by_words(code, prices, lot):
    return sum([prices[code.places.index(place)] for place in lot])


def is_run_by_words(code, thing):
    """Tell whether any value is a run, by the places that are come to from the door on."""
    if not isinstance(thing, tuple) or not all([is_number(part) and 0 <= part < len(code.jumps) for part in thing]):
        return False
    return stops_of(code, code.door, thing) is not None


def runs_by_words(code, many):
    """Return the ascending tuple of all runs of so many jumps, by a look at all rows of numbers."""
    return tuple([row for row in product(range(len(code.jumps)), repeat=many) if is_run_by_words(code, row)])


def longest_row(numbers, lot):
    """Return the greatest number of numbers, one behind another, that are not in the lot."""
    longest = row = 0
    for number in numbers:
        row = 0 if number in lot else row + 1
        longest = max(longest, row)
    return longest


def longest_unmet_by_words(code, cut):
    """Return the greatest length of a row of jumps that are not in the cut; runs come to each place."""
    unmet = [number for number in range(len(code.jumps)) if number not in cut]
    rows = [(number,) for number in unmet]
    longest = 0
    while rows:
        longest += 1
        rows = [row + (number,) for row in rows for number in unmet
                if code.jumps[row[-1]][1] == code.jumps[number][0]]
    return longest


def wrong_line_by_words(text):
    """Return the number of the first line of a text that code_text does not give behind those ahead, or None."""
    lines = text.split("\n")
    places = lines[0].split(" ")[1:]
    if not re.fullmatch(A_PLACES_LINE, lines[0]) or places != sorted(set(places)):
        return 1
    if len(lines) == 1 or lines[1] not in ["door " + place for place in places]:
        return 2
    for at, line in enumerate(lines[2:], start=3):
        if at == 15 or not re.fullmatch(A_JUMP_LINE, line) or not set(line.split(" ")[:2]) <= set(places):
            return at
    return None
