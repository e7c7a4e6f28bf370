"""Which values are integers within bounds, and which ones are words."""

LONGEST_WORD = 8


def is_integer_within(value, least, greatest):
    """Tell whether any value is an integer from least to greatest."""
    # Python counts True and False among the integers, this package does not.
    return isinstance(value, int) and not isinstance(value, bool) and least <= value <= greatest


def is_word(value):
    """Tell whether any value is a text of 1 to 8 letters from a to z."""
    if not isinstance(value, str) or len(value) > LONGEST_WORD:
        return False
    return value.isascii() and value.isalpha() and value.islower()
