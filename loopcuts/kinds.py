"""Which values are integers, words, pairs and ascending."""

LONGEST_WORD = 8


def is_integer(value):
    """Tell whether any value is an integer."""
    # Python counts True and False among the integers, this package does not.
    return isinstance(value, int) and not isinstance(value, bool)


def is_integer_within(value, least, greatest):
    """Tell whether any value is an integer from least to greatest."""
    return is_integer(value) and least <= value <= greatest


def is_word(value):
    """Tell whether any value is a text of 1 to 8 letters from a to z."""
    if not isinstance(value, str) or len(value) > LONGEST_WORD:
        return False
    return value.isascii() and value.isalpha() and value.islower()


def is_pair(value):
    """Tell whether any value is a tuple of two."""
    return isinstance(value, tuple) and len(value) == 2


def is_ascending(items):
    """Tell whether each of the items, which have an order, is greater than the one ahead of it."""
    return all([one < other for one, other in zip(items, items[1:])])
