"""Which values are integers, fractions, steps, square tables and certificates of a kind."""

from math import gcd


def is_whole(thing):
    """Tell whether any value is an integer; a bool is none."""
    return isinstance(thing, int) and not isinstance(thing, bool)


def is_fraction(thing):
    """Tell whether any value is a pair (top, bottom) in lowest terms whose bottom is above 0."""
    return is_step(2, thing) and thing[1] > 0 and gcd(thing[0], thing[1]) == 1


def is_step(n, thing):
    """Tell whether any value is a tuple of n integers."""
    if not isinstance(thing, tuple) or len(thing) != n:
        return False
    return all(is_whole(part) for part in thing)


def is_square(n, thing):
    """Tell whether any value is a tuple of n steps of n integers."""
    if not isinstance(thing, tuple) or len(thing) != n:
        return False
    return all(is_step(n, row) for row in thing)


def has_word(thing, word, many):
    """Tell whether any value is a tuple of so many parts whose first one is the word."""
    return isinstance(thing, tuple) and len(thing) == many and thing[0] == word
