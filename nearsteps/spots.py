"""Spots, fractions and how near they are to places; nothing is checked here."""

from math import gcd

from nearsteps.rows import added, adjoint, determinant, lean_by, led_by, opposite, size_by


def common_divisor(tops, bottom):
    """Return the greatest integer that divides the bottom and all tops."""
    common = abs(bottom)
    for top in tops:
        common = gcd(common, top)
    return common


def lowest(tops, bottom):
    """Return the spot of the tops over a bottom above 0, in lowest terms."""
    common = common_divisor(tops, bottom)
    return (tuple([top // common for top in tops]), bottom // common)


def fraction(top, bottom):
    """Return the fraction of a top over a bottom above 0, in lowest terms."""
    common = gcd(top, bottom)
    return (top // common, bottom // common)


def is_above(one, other):
    """Tell whether the first fraction is above the second one."""
    return one[0] * other[1] > other[0] * one[1]


def told_by(rows, spot):
    """Return the spot of the numbers by which the sum of the rows is the spot."""
    tops, bottom = spot
    whole = determinant(rows)
    numbers = led_by(adjoint(rows), tops)
    return lowest(numbers if whole > 0 else opposite(numbers), abs(whole) * bottom)


def rounded(spot):
    """Return the place of the integers that differ least, the greater one of two."""
    tops, bottom = spot
    return tuple([(2 * top + bottom) // (2 * bottom) for top in tops])


def apart(spot, place):
    """Return the tops of the difference of a spot and a place, over the spot's bottom."""
    tops, bottom = spot
    return tuple([top - bottom * number for top, number in zip(tops, place)])


def gap_by(form, spot, place):
    """Return the size of the difference of a spot and a place, a fraction."""
    return fraction(size_by(form, apart(spot, place)), spot[1] * spot[1])


def growth(form, off, bottom, step):
    """Return by how much a step makes the gap greater, times the bottom; `off` is what `apart` tells."""
    return bottom * size_by(form, step) - 2 * lean_by(form, off, step)


def leading(form, steps, spot, place):
    """Return the step that leads nearest to the spot from the place, None if none leads nearer."""
    off, bottom = apart(spot, place), spot[1]
    least, found = 0, None
    for step in steps:
        here = growth(form, off, bottom, step)
        if here < least:
            least, found = here, step
    return found


def tying(form, steps, spot, place):
    """Return the steps that lead from the place to places just as near to the spot, in their order."""
    off, bottom = apart(spot, place), spot[1]
    return tuple([step for step in steps if growth(form, off, bottom, step) == 0])


def way(form, steps, spot, place):
    """Return the steps, each leading nearer, that lead on until none does, and the place they end at."""
    done = []
    here = place
    step = leading(form, steps, spot, here)
    while step is not None:
        done.append(step)
        here = added(here, step)
        step = leading(form, steps, spot, here)
    return (tuple(done), here)
