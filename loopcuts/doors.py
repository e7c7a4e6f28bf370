"""Doors of loops, and the papers that show whether each loop has one."""

from loopcuts.codes import is_place
from loopcuts.errors import BadPaper
from loopcuts.kinds import is_pair
from loopcuts.loops import are_jump_numbers, ends_of, is_loop, is_way, loops, places_of


def one_door(code):
    """Tell whether each loop of the code has a door."""
    return doors_paper(code)[0] == "one"


def door_of(code, loop):
    """Return the door of a loop, or None if it has none."""
    ways = _ways_into(code, places_of(code, loop))
    if len(ways) > 1:
        return None
    return _end_of(code, ways[0])


def doors_paper(code):
    """Return a paper on the doors of the code."""
    for loop in loops(code):
        ways = _ways_into(code, places_of(code, loop))
        if len(ways) > 1:
            return ("several", loop, ways[0], ways[1])
    return ("one", _longest_foldings(code))


def check_doors(code, paper):
    """Return the first word of a paper that holds."""
    if _has_form(paper, "one", 2):
        _check_foldings(code, paper[1])
    elif _has_form(paper, "several", 4):
        _check_ways(code, paper[1], paper[2], paper[3])
    else:
        raise BadPaper("form")
    return paper[0]


def _ways_into(code, places):
    """Return a way from the code's door to each of the places that one comes to first of them."""
    ways = {code.door: ()}
    stops = [code.door]
    at = 0
    while at < len(stops):
        # A way ends at the first of the places that it comes to.
        if stops[at] not in places:
            for number, (begin, end, _) in enumerate(code.jumps):
                if begin == stops[at] and end not in ways:
                    ways[end] = ways[begin] + (number,)
                    stops.append(end)
        at += 1
    return [ways[stop] for stop in stops if stop in places]


def _stops_of(code, way):
    """Return the list of the places that a way from the code's door comes to."""
    return [code.door] + ends_of(code, way)


def _end_of(code, way):
    """Return the place at which a way from the code's door ends."""
    return _stops_of(code, way)[-1]


def _longest_foldings(code):
    """Return foldings of the code behind which there can be no further one."""
    lumps = _single_lumps(code)
    foldings = []
    pair = _next_folding(code, lumps)
    while pair is not None:
        foldings.append(pair)
        lumps = _folded(lumps, pair)
        pair = _next_folding(code, lumps)
    return tuple(foldings)


def _single_lumps(code):
    """Return the name of the lump of each place, each place being in a lump of its own."""
    return {place: place for place in code.places}


def _next_folding(code, lumps):
    """Return a folding that may be done with the lumps, or None if there is none."""
    for place in code.places:
        for other in code.places:
            if _may_fold(code, lumps, (place, other)):
                return (place, other)
    return None


def _may_fold(code, lumps, thing):
    """Tell whether any value is a folding that may be done with the lumps."""
    names = list(lumps.values())
    if not is_pair(thing) or not all([is_place(names, name) for name in thing]):
        return False
    place, other = thing
    # No lump is put into itself, and the lump with the door keeps the door's name.
    if place in (other, code.door):
        return False
    sources = [lumps[begin] for begin, end, _ in code.jumps if lumps[end] == place]
    return all([source in (place, other) for source in sources])


def _folded(lumps, pair):
    """Return the lumps after a folding."""
    place, other = pair
    return {member: other if name == place else name for member, name in lumps.items()}


def _has_form(paper, word, many):
    """Tell whether any value is a tuple of so many items, the first one being the word."""
    if not isinstance(paper, tuple) or len(paper) != many:
        return False
    return isinstance(paper[0], str) and paper[0] == word


def _check_foldings(code, foldings):
    """Refuse any value that is no foldings that leave one lump."""
    if not isinstance(foldings, tuple):
        raise BadPaper("folding")
    lumps = _single_lumps(code)
    for pair in foldings:
        if not _may_fold(code, lumps, pair):
            raise BadPaper("folding")
        lumps = _folded(lumps, pair)
    if len(set(list(lumps.values()))) > 1:
        raise BadPaper("lumps")


def _check_ways(code, loop, way, other):
    """Refuse any values that are no loop and two ways that come to it first at two places."""
    if not is_loop(code, loop):
        raise BadPaper("loop")
    places = places_of(code, loop)
    if not _is_way_into(code, places, way):
        raise BadPaper("way")
    if not _is_way_into(code, places, other) or _end_of(code, way) == _end_of(code, other):
        raise BadPaper("other")


def _is_way_into(code, places, thing):
    """Tell whether any value is a way from the code's door to one of the places that comes to no other of them."""
    if not are_jump_numbers(code, thing):
        return False
    stops = _stops_of(code, thing)
    met = [stop for stop in stops if stop in places]
    return is_way(code, code.door, stops[-1], thing) and met == stops[-1:]
