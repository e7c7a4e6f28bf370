"""Codes and values of every kind that the tests share."""

from loopcuts.codes import Code


class Alike:
    """A value that says of everything that it is equal to it."""

    def __eq__(self, other):
        return True


def nested(depth):
    """Return a tuple in a tuple, so many deep."""
    thing = ()
    for _ in range(depth - 1):
        thing = (thing,)
    return thing


def nested_list(depth):
    """Return a list in a list, so many deep."""
    thing = []
    for _ in range(depth - 1):
        thing = [thing]
    return thing


def single():
    """Return the least code: one place, no jump."""
    return Code(("a",), "a")


def example():
    """Return the code of DOC.md's examples."""
    return Code(("a", "b", "c"), "a", [("a", "b", 5), ("b", "c", 3), ("c", "b", 1), ("c", "b", 2)])


def ring(jumps_each=1):
    """Return a code of seven places in a ring; the first five steps may have alike jumps."""
    places = tuple("abcdefg")
    steps = list(zip(places, places[1:] + places[:1]))
    jumps = [step + (1,) for step in steps]
    for _ in range(jumps_each - 1):
        jumps += [step + (1,) for step in steps[:5]]
    return Code(places, "a", jumps)


def whole(names="abcd"):
    """Return a code with a jump from each place to each other one."""
    jumps = [(one, other, 1) for one in names for other in names if one != other]
    return Code(tuple(names), names[0], jumps)


def every_kind():
    """Return values of every kind, new ones at each call."""
    numbers = [None, True, False, 0, 1, 2, -1, 12, 20, 21, 10 ** 999, -(10 ** 999)]
    texts = ["", "a", "b", "A", " ", "\n", "a\n", "abc", "~" * 30000, b"", b"a", b"\x00\xff"]
    lists = [[], [0], ["a"], [("a", "a", 1)], [[]], nested_list(50), [0] * 29999]
    tuples = [(), (0,), (1,), (True,), (False,), (None,), ("a",), (b"a",), ((),), ([],), ({},),
              ("a", "a"), ("a", "a", 1), nested(50), (0,) * 29999, (10 ** 999,), (-1,)]
    others = [{}, {"a": 1}, {0: "a"}, set(), {0}, frozenset(), {"a"}, object(), single(), example(),
              range(0), range(2), Code, len, ValueError("a")]
    return numbers + texts + lists + tuples + others
