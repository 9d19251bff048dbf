"""Readings, which errors of them are put right, and what may have been meant (part 7 of the document)."""

from math import isqrt

from nearsteps.errors import BadFraction
from nearsteps.forms import need_form
from nearsteps.kinds import has_word, is_fraction, is_step
from nearsteps.nearest import is_spot, need_spot, nearest_places
from nearsteps.obtuse import short_rows
from nearsteps.reach import need_from_nought
from nearsteps.rows import adjoint, determinant, leans_by, led_by, noughts_of
from nearsteps.short import least_size, steps_in_box
from nearsteps.spots import gap_by, is_above, lowest, told_by


def judge_reading(form, e):
    """Return a certificate that readings with errors below e are right, or that they are not."""
    need_form(form)
    need_above_nought(e)
    if is_safe(form, e):
        return ("right",)
    # Half way along a shortest step both its ends are as near, and nearer than e.
    step = short_rows(form)[0]
    return ("errs", step, lowest(step, 2))


def reading_holds(form, e, thing):
    """Tell whether any value is a right certificate for the form and e."""
    need_form(form)
    need_above_nought(e)
    if has_word(thing, "right", 1):
        return is_safe(form, e)
    n = len(form)
    if not has_word(thing, "errs", 3) or not is_step(n, thing[1]) or not is_spot(n, thing[2]):
        return False
    here, there = gap_by(form, thing[2], noughts_of(n)), gap_by(form, thing[2], thing[1])
    return any(thing[1]) and is_above(e, here) and not is_above(there, here)


def read(form, spot):
    """Return the place that is the only one nearest to the spot, None if there are more."""
    places = nearest_places(form, spot)
    return places[0] if len(places) == 1 else None


def may_be_meant(form, spot, e):
    """Return the ascending tuple of the places with a gap of at most e to the spot."""
    need_form(form)
    need_spot(len(form), spot)
    need_from_nought(e)
    rows = short_rows(form)
    box = box_around(leans_by(form, rows), told_by(rows, spot), e)
    places = [led_by(rows, numbers) for numbers in steps_in_box(box)]
    return tuple(sorted([place for place in places if not is_above(gap_by(form, spot, place), e)]))


def is_safe(form, e):
    """Tell whether a reading is right whenever its error is below e."""
    return 4 * e[0] <= e[1] * least_size(form)


def box_around(form, spot, e):
    """Return for each position the least and the greatest number of a place with a gap of at most e to the spot."""
    # The square of how far the number at i is off the spot's is at most e times the
    # integer at (i, i) of the adjoint, divided by the determinant. Here both are told
    # times the spot's bottom.
    tops, bottom = spot
    sides, whole = adjoint(form), e[1] * determinant(form)
    off = [isqrt(bottom * bottom * e[0] * sides[at][at] // whole) for at in range(len(form))]
    return [(-((far - top) // bottom), (top + far) // bottom) for top, far in zip(tops, off)]


def need_above_nought(thing):
    """Raise BadFraction with a value that is no fraction above 0."""
    if not is_fraction(thing) or thing[0] <= 0:
        raise BadFraction(thing)
