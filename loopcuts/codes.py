"""Codes: places, a door among them, and jumps with prices between them."""

from loopcuts.errors import BadCode, BadNumber
from loopcuts.kinds import is_ascending, is_integer_within, is_word

MOST_PLACES = 7
MOST_JUMPS = 12
GREATEST_PRICE = 20


def is_price(value):
    """Tell whether any value is a price."""
    return is_integer_within(value, 0, GREATEST_PRICE)


def is_jump_number(code, value):
    """Tell whether any value is the number of a jump of the code."""
    return is_integer_within(value, 0, len(code) - 1)


def is_place(places, value):
    """Tell whether any value is one of the places."""
    return isinstance(value, str) and value in places


def are_places(value):
    """Tell whether any value is an ascending tuple of 1 to 7 words."""
    if not isinstance(value, tuple) or not 1 <= len(value) <= MOST_PLACES:
        return False
    # Only words are compared: other values may have no order.
    return all([is_word(place) for place in value]) and is_ascending(value)


class Code:
    """Places, a door and jumps; a code never changes."""

    def __init__(self, places, door, jumps=()):
        if not are_places(places):
            raise BadCode("places")
        if not is_place(places, door):
            raise BadCode("door")
        if not isinstance(jumps, (list, tuple)) or len(jumps) > MOST_JUMPS:
            raise BadCode(None)
        for number, jump in enumerate(jumps):
            if not _is_jump(places, jump):
                raise BadCode(number)
        if len(places_reached(door, jumps)) < len(places):
            raise BadCode("reach")
        self.places = places
        self.door = door
        self.jumps = tuple(jumps)

    def __len__(self):
        return len(self.jumps)

    def __eq__(self, other):
        return (isinstance(other, Code) and self.places == other.places
                and self.door == other.door and self.jumps == other.jumps)

    def with_jump(self, jump):
        """Return the code with a further jump at its end."""
        if not _is_jump(self.places, jump):
            raise BadCode(len(self.jumps))
        return Code(self.places, self.door, self.jumps + (jump,))

    def without_jump(self, number):
        """Return the code without the jump of that number."""
        if not is_jump_number(self, number):
            raise BadNumber(number)
        return Code(self.places, self.door, self.jumps[:number] + self.jumps[number + 1:])

    def priced(self, number, price):
        """Return the code with that price of the jump of that number."""
        if not is_jump_number(self, number):
            raise BadNumber(number)
        if not is_price(price):
            raise BadNumber(price)
        jumps = list(self.jumps)
        begin, end, _ = jumps[number]
        jumps[number] = (begin, end, price)
        return Code(self.places, self.door, jumps)


def _is_jump(places, value):
    """Tell whether any value is a jump between the places."""
    if not isinstance(value, tuple) or len(value) != 3:
        return False
    begin, end, price = value
    return is_place(places, begin) and is_place(places, end) and is_price(price)


def places_reached(door, jumps):
    """Return the list of the places that can be reached from the door, each once."""
    reached = [door]
    at = 0
    while at < len(reached):
        for begin, end, _ in jumps:
            if begin == reached[at] and end not in reached:
                reached.append(end)
        at += 1
    return reached
