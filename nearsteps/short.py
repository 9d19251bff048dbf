"""Short steps (part 2 of the document)."""

from math import isqrt

from nearsteps.errors import BadNumber
from nearsteps.forms import need_form
from nearsteps.kinds import is_whole
from nearsteps.obtuse import short_rows
from nearsteps.rows import adjoint, determinant, leans_by, led_by, size_by


def short_steps(form, most):
    """Return the ascending tuple of the steps other than noughts of at most this size."""
    need_form(form)
    need_number(most)
    rows = short_rows(form)
    steps = [led_by(rows, numbers) for numbers, _ in numbers_within(leans_by(form, rows), most)]
    return tuple(sorted([step for step in steps if any(step)]))


def least_size(form):
    """Return the least size of a step other than noughts."""
    need_form(form)
    return size_by(form, short_rows(form)[0])


def many_by_size(form, most):
    """Return how many steps there are of each size from 0 to most, noughts among them."""
    need_form(form)
    need_number(most)
    counts = [0] * (most + 1)
    for _, reached in numbers_within(leans_by(form, short_rows(form)), most):
        counts[reached] += 1
    return tuple(counts)


def numbers_within(form, most):
    """Return all steps of at most this size, each with its size; quick only if the form has short rows."""
    box = [(-bound, bound) for bound in bounds_within(form, most)]
    pairs = [(step, size_by(form, step)) for step in steps_in_box(box)]
    return [(step, reached) for step, reached in pairs if reached <= most]


def bounds_within(form, most):
    """Return for each position how great a number of a step of at most this size can be."""
    # The square of the number at i is at most the size times the integer at (i, i) of
    # the adjoint, divided by the determinant.
    whole = determinant(form)
    return [isqrt(most * row[at] // whole) for at, row in enumerate(adjoint(form))]


def steps_in_box(box):
    """Return the steps whose numbers are between the least and the greatest that the box tells for each."""
    steps = [()]
    for least, greatest in box:
        steps = [step + (number,) for step in steps for number in range(least, greatest + 1)]
    return steps


def need_number(thing):
    """Raise BadNumber with a value that is no integer from 0 on."""
    if not is_whole(thing) or thing < 0:
        raise BadNumber(thing)
