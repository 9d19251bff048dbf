"""Lists of steps that are enough (part 5 of the document)."""

from nearsteps.errors import BadList
from nearsteps.forms import need_form
from nearsteps.kinds import has_word, is_step
from nearsteps.nearest import is_spot
from nearsteps.rows import lean_by, noughts_of, size_by
from nearsteps.spots import leading, lowest
from nearsteps.walls import walls


def judge_enough(form, steps):
    """Return a certificate that the steps are enough, or that they are not."""
    need_form(form)
    need_list(len(form), steps)
    lacking = first_lacking(form, steps)
    if lacking is None:
        return ("enough",)
    return ("spot", spot_along(form, lacking, steps), noughts_of(len(form)))


def enough_holds(form, steps, thing):
    """Tell whether any value is a right certificate for the steps."""
    need_form(form)
    need_list(len(form), steps)
    n = len(form)
    if has_word(thing, "enough", 1):
        return first_lacking(form, steps) is None
    if not has_word(thing, "spot", 3) or not is_spot(n, thing[1]) or not is_step(n, thing[2]):
        return False
    if leading(form, steps, thing[1], thing[2]) is not None:
        return False
    return leading(form, walls(form), thing[1], thing[2]) is not None


def is_enough(form, steps):
    """Tell whether the steps are enough for the form."""
    need_form(form)
    need_list(len(form), steps)
    return first_lacking(form, steps) is None


def first_lacking(form, steps):
    """Return the first wall that is not among the steps, None if there is none."""
    for wall in walls(form):
        if wall not in steps:
            return wall
    return None


def spot_along(form, wall, steps):
    """Return a spot along a lacking wall to which it leads nearer from noughts, but no step does."""
    # The spot is t times half the wall, with the greatest t up to 2 such that no step
    # leads nearer. As half way along a wall only its ends are nearest, t is above 1.
    top, bottom = 2, 1
    for step in steps:
        along, reached = lean_by(form, wall, step), size_by(form, step)
        if top * along > reached * bottom:
            top, bottom = reached, along
    return lowest(tuple([top * number for number in wall]), 2 * bottom)


def need_list(n, thing):
    """Raise BadList with a value that is no tuple of steps of n integers."""
    if not isinstance(thing, tuple) or not all([is_step(n, step) for step in thing]):
        raise BadList(thing)
