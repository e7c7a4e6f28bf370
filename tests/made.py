"""Codes that are made up by a rule, the same ones each time, and values with one part otherwise."""

from loopcuts.codes import Code
from tests.samples import every_kind, example, ring, single, whole

NAMES = ("ant", "b", "bee", "c", "d", "de", "z")


class Numbers:
    """Numbers that follow from a first one by a rule."""

    def __init__(self, seed):
        self.state = seed
        # The numbers that come first are alike for seeds that are near one another.
        for _ in range(4):
            self.below(1)

    def below(self, bound):
        self.state = (self.state * 6364136223846793005 + 1442695040888963407) % 2 ** 64
        return (self.state >> 33) % bound


def made_code(seed, places, jumps, to_the_ahead):
    """Return a code; of a hundred jumps so many, or more, lead to places on some way to where they begin."""
    numbers = Numbers(seed)
    names = NAMES[:places]
    first = numbers.below(places)
    order = list(names[first:] + names[:first])
    ahead = {order[0]: order[0]}
    made = []
    for at in range(1, places):
        ahead[order[at]] = order[numbers.below(at)]
        made.append((ahead[order[at]], order[at], price_by(numbers)))
    while len(made) < jumps:
        begin = end = order[numbers.below(places)]
        if numbers.below(100) < to_the_ahead:
            for _ in range((1, 2, 0, 3, 1)[numbers.below(5)]):
                end = ahead[end]
        else:
            end = order[numbers.below(places)]
        made.insert(numbers.below(len(made) + 1), (begin, end, price_by(numbers)))
    return Code(names, order[0], made)


def chained_code(seed, places):
    """Return a ring of places with a jump back from each one, behind the jumps of the ring."""
    numbers = Numbers(seed)
    names = NAMES[:places]
    steps = list(zip(names, names[1:] + names[:1])) + list(zip(names[1:], names))
    return Code(names, names[0], [step + (1 + numbers.below(6),) for step in steps[:12]])


def price_by(numbers):
    """Return a price; 0 and 20 and low ones, of which many are alike, come often."""
    return (0, numbers.below(21), 1, 2, 3, 2, 1)[numbers.below(7)]


def small_codes(many=60):
    """Return codes of at most five places and eight jumps."""
    return [made_code(seed, (3, 4, 1, 5, 4, 2)[seed % 6], 5 + seed % 4, 25 * (seed % 5)) for seed in range(many)]


def large_codes(many=12):
    """Return codes of seven places and twelve jumps."""
    return [made_code(1000 + seed, 7, 12, 40 + 30 * (seed % 3)) for seed in range(many)]


def crossing():
    """Return a code whose one loop is come to at two places."""
    return Code(("a", "b", "c"), "a", [("a", "b", 1), ("a", "c", 2), ("b", "c", 3), ("c", "b", 4), ("a", "b", 5)])


def nesting():
    """Return a code with a loop within a loop within a loop."""
    return Code(("a", "b", "c", "d"), "a", [("a", "b", 2), ("b", "c", 3), ("c", "d", 9), ("d", "c", 4), ("d", "b", 1),
                                            ("d", "a", 2)])


def sharing():
    """Return a code of seven places in a ring and five alike jumps, with prices of all kinds."""
    code = ring(2)
    for number in range(12):
        code = code.priced(number, (0, 20, 3, 7, 1, 19, 20, 2, 11, 5, 0, 4)[number])
    return code


def known_codes():
    """Return the codes of the edges that the document names."""
    return [single(), example(), ring(), ring(2), whole("abc"), whole(), crossing(), nesting(), sharing(),
            Code(("a",), "a", [("a", "a", 0)] * 12), Code(("a",), "a", [("a", "a", 20)] * 12),
            Code(("a", "b"), "b", [("b", "a", 7)] * 12),
            Code(("a", "b"), "b", [("b", "a", 0), ("a", "b", 0), ("a", "a", 20), ("b", "a", 20)])]


def several_door_codes():
    """Return codes of which some loop has no door."""
    return [crossing(), whole("abc"), whole(), crossing().priced(2, 0), crossing().with_jump(("c", "a", 20))]


def otherwise(value, others):
    """Return copies of the value with one part, at any depth, put otherwise."""
    copies = list(others)
    if isinstance(value, tuple):
        copies += [list(value), value + value[-1:], value[:-1], value[::-1], (value,), value + (0,)]
        for at, part in enumerate(value):
            copies += [value[:at] + (other,) + value[at + 1:] for other in otherwise(part, others)]
    elif isinstance(value, str):
        copies += [value.upper(), value + " ", value + value, value.encode(), [value], (value,), "q"]
    else:
        copies += [value + 1, value - 1, -value, str(value), value == 1, [value], (value,)]
    return copies


def few_kinds():
    """Return values of most kinds, less great ones than every_kind."""
    return [value for value in every_kind() if not isinstance(value, (str, tuple, list)) or len(value) < 10]
