"""Which values are integers, steps and square tables."""


def is_whole(thing):
    """Tell whether any value is an integer; a bool is none."""
    return isinstance(thing, int) and not isinstance(thing, bool)


def is_step(n, thing):
    """Tell whether any value is a tuple of n integers."""
    if not isinstance(thing, tuple) or len(thing) != n:
        return False
    return all(is_whole(part) for part in thing)


def is_square(n, thing):
    """Tell whether any value is a tuple of n steps of n integers."""
    if not isinstance(thing, tuple) or len(thing) != n:
        return False
    return all(is_step(n, row) for row in thing)
