"""Texts of codes and of loops, and the codes of texts."""

from loopcuts.codes import GREATEST_PRICE, MOST_JUMPS, Code, are_places, is_place
from loopcuts.errors import BadLoop, BadText
from loopcuts.loops import begins_of, is_loop

LINES_AHEAD_OF_JUMPS = 2


def code_text(code):
    """Return the text of a code."""
    lines = [("places",) + code.places, ("door", code.door)]
    lines += [(begin, end, str(price)) for begin, end, price in code.jumps]
    return "\n".join([" ".join(line) for line in lines])


def read_code(text):
    """Return the code of a text."""
    if not isinstance(text, str):
        raise BadText(None)
    lines = [line.split(" ") for line in text.split("\n")]
    places = tuple(lines[0][1:])
    if lines[0][0] != "places" or not are_places(places):
        raise BadText(1)
    if len(lines) < LINES_AHEAD_OF_JUMPS or not _is_door_line(places, lines[1]):
        raise BadText(2)
    return Code(places, lines[1][1], _read_jumps(places, lines[LINES_AHEAD_OF_JUMPS:]))


def loop_text(code, loop):
    """Return the text of a loop."""
    if not is_loop(code, loop):
        raise BadLoop(loop)
    begins = begins_of(code, loop)
    return ">".join(begins + begins[:1])


def _is_door_line(places, words):
    """Tell whether the words are those of a line with the door."""
    return len(words) == 2 and words[0] == "door" and is_place(places, words[1])


def _read_jumps(places, lines):
    """Return the list of the jumps whose words the lines are."""
    # A price is read by its text: a text of digits may be too long to be read as a number.
    prices = {str(price): price for price in range(GREATEST_PRICE + 1)}
    jumps = []
    for words in lines:
        if len(jumps) == MOST_JUMPS or not _is_jump_line(places, prices, words):
            raise BadText(LINES_AHEAD_OF_JUMPS + len(jumps) + 1)
        jumps.append((words[0], words[1], prices[words[2]]))
    return jumps


def _is_jump_line(places, prices, words):
    """Tell whether the words are those of a line with a jump."""
    return len(words) == 3 and is_place(places, words[0]) and is_place(places, words[1]) and words[2] in prices
