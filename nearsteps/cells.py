"""Cells, their corners and faces (part 6 of the document)."""

from itertools import permutations

from nearsteps.errors import BadStep
from nearsteps.forms import need_form
from nearsteps.kinds import has_word, is_step
from nearsteps.nearest import is_spot, need_spot
from nearsteps.obtuse import independent, obtuse_rows
from nearsteps.rows import (
    added, adjoint, determinant, lean_by, leans_by, led_by, noughts_but, noughts_of,
)
from nearsteps.spots import growth, leading, lowest, tying
from nearsteps.walls import wall_fits, walls


def is_in_cell(form, spot):
    """Tell whether the place of noughts is nearest to the spot."""
    need_form(form)
    need_spot(len(form), spot)
    return nearer_than_noughts(form, spot) is None


def judge_corner(form, spot):
    """Return a certificate that the spot is a corner, is outside of the cell, or is a middle."""
    need_form(form)
    need_spot(len(form), spot)
    nearer = nearer_than_noughts(form, spot)
    if nearer is not None:
        return ("outside", nearer)
    ties = independent(form, walls_tying(form, spot))
    if len(ties) == len(form):
        return ("corner", ties)
    return ("middle",) + ends_around(form, spot, free_step(form, ties))


def corner_holds(form, spot, thing):
    """Tell whether any value is a right certificate for the spot."""
    need_form(form)
    need_spot(len(form), spot)
    if has_word(thing, "corner", 2):
        return nearer_than_noughts(form, spot) is None and is_corner_by(form, spot, thing[1])
    if has_word(thing, "outside", 2):
        return wall_fits(form, thing[1]) and leading(form, thing[1:], spot, noughts_of(len(form))) is not None
    if not has_word(thing, "middle", 3) or not is_middle(len(form), spot, thing[1], thing[2]):
        return False
    return all([nearer_than_noughts(form, end) is None for end in thing[1:]])


def corners(form):
    """Return the ascending tuple of all corners of the cell."""
    need_form(form)
    # The places that are the sums of the first rows, none, one, two and so on, of an
    # obtuse row in any order are all nearest to one spot, and each corner is one of
    # these (B. Delone 1934).
    rows = obtuse_rows(form)
    found = [spot_between(form, first_sums(rows, order)) for order in permutations(range(len(rows)))]
    return tuple(sorted(set(found)))


def face_of(form, wall):
    """Return the ascending tuple of the corners at which the wall ties."""
    need_form(form)
    if not wall_fits(form, wall):
        raise BadStep(wall)
    return tuple([spot for spot in corners(form) if tying(form, (wall,), spot, noughts_of(len(form)))])


def counts(form):
    """Return how many walls and how many corners there are."""
    need_form(form)
    return (len(walls(form)), len(corners(form)))


def nearer_than_noughts(form, spot):
    """Return a wall that is nearer to the spot than noughts, None if there is none."""
    return leading(form, walls(form), spot, noughts_of(len(form)))


def walls_tying(form, spot):
    """Return the ascending tuple of the walls that are as near to the spot as noughts."""
    return tying(form, walls(form), spot, noughts_of(len(form)))


def is_corner_by(form, spot, thing):
    """Tell whether any value is an ascending tuple of n tying walls with a determinant other than 0."""
    n = len(form)
    if not isinstance(thing, tuple) or len(thing) != n or not all([is_step(n, step) for step in thing]):
        return False
    ties = walls_tying(form, spot)
    if not all([step in ties for step in thing]) or determinant(thing) == 0:
        return False
    return thing == tuple(sorted(thing))


def is_middle(n, spot, one, other):
    """Tell whether any two values are unlike spots whose middle is the spot."""
    if not is_spot(n, one) or not is_spot(n, other) or one == other:
        return False
    tops = [a * other[1] + b * one[1] for a, b in zip(one[0], other[0])]
    return lowest(tops, 2 * one[1] * other[1]) == spot


def first_sums(rows, order):
    """Return the sums of the first one, the first two and so on of the rows in this order, but of all."""
    found = [rows[order[0]]]
    for at in order[1:-1]:
        found.append(added(found[-1], rows[at]))
    return found


def spot_between(form, steps):
    """Return the spot that is as near to each of n independent steps as to noughts."""
    # It is a sum of the steps whose lean with each of them is half the step's size.
    leans = leans_by(form, steps)
    shares = led_by(adjoint(leans), [leans[at][at] for at in range(len(steps))])
    return lowest(led_by(steps, shares), 2 * determinant(leans))


def free_step(form, steps):
    """Return a step other than noughts whose leans with fewer than n independent steps are 0."""
    n = len(form)
    whole = independent(form, steps + tuple([noughts_but(n, at, 1) for at in range(n)]))
    return led_by(whole, adjoint(leans_by(form, whole))[-1])


def ends_around(form, spot, step):
    """Return the two spots of the cell farthest from a spot of it, one each way along a step, and as far."""
    # So far that a wall ties that didn't before; a wall to which the step doesn't lean
    # stays as it is.
    tops, bottom = spot
    most = None
    for wall in walls(form):
        lean = abs(lean_by(form, step, wall))
        left = growth(form, tops, bottom, wall)
        if lean != 0 and (most is None or left * most[1] < most[0] * lean):
            most = (left, lean)
    left, lean = most
    whole = [2 * lean * top for top in tops]
    more = [left * number for number in step]
    less = [-number for number in more]
    return tuple([lowest(added(whole, side), 2 * lean * bottom) for side in (less, more)])
