"""How far a spot can be from all places (part 7 of the document)."""

from nearsteps.cells import corners
from nearsteps.errors import BadFraction
from nearsteps.forms import need_form
from nearsteps.kinds import has_word, is_fraction
from nearsteps.nearest import is_spot, nearest_places
from nearsteps.rows import noughts_of
from nearsteps.spots import gap_by, is_above


def reach(form):
    """Return the greatest gap of a spot and a place nearest to it, a fraction."""
    need_form(form)
    greatest = (0, 1)
    for _, here in corners_with_gaps(form):
        if is_above(here, greatest):
            greatest = here
    return greatest


def deepest(form):
    """Return the ascending tuple of the corners that are as far from the place of noughts as the reach tells."""
    greatest = reach(form)
    return tuple([corner for corner, here in corners_with_gaps(form) if here == greatest])


def judge_reach(form, r):
    """Return a certificate that the reach is at most r, or that it is above."""
    need_form(form)
    need_from_nought(r)
    if is_above(reach(form), r):
        return ("spot", deepest(form)[0])
    return ("within",)


def reach_holds(form, r, thing):
    """Tell whether any value is a right certificate for the form and r."""
    need_form(form)
    need_from_nought(r)
    if has_word(thing, "within", 1):
        return not is_above(reach(form), r)
    if not has_word(thing, "spot", 2) or not is_spot(len(form), thing[1]):
        return False
    return is_above(gap_by(form, thing[1], nearest_places(form, thing[1])[0]), r)


def corners_with_gaps(form):
    """Return pairs of a corner and its gap to the place of noughts, the corners ascending."""
    noughts = noughts_of(len(form))
    return [(corner, gap_by(form, corner, noughts)) for corner in corners(form)]


def need_from_nought(thing):
    """Raise BadFraction with a value that is no fraction from 0 on."""
    if not is_fraction(thing) or thing[0] < 0:
        raise BadFraction(thing)
