"""Spots, the places nearest to them, and plain rounding (part 4 of the document)."""

from nearsteps.errors import BadSpot
from nearsteps.forms import need_form, need_step
from nearsteps.kinds import has_word, is_step, is_whole
from nearsteps.obtuse import obtuse_rows, shortest_in_classes
from nearsteps.rows import added, led_by, noughts_but
from nearsteps.spots import common_divisor, gap_by, leading, lowest, rounded, told_by, tying, way
from nearsteps.walls import wall_fits, walls


def is_spot(n, thing):
    """Tell whether any value is a spot of n."""
    if not isinstance(thing, tuple) or len(thing) != 2:
        return False
    tops, bottom = thing
    if not is_step(n, tops) or not is_whole(bottom) or bottom < 1:
        return False
    return common_divisor(tops, bottom) == 1


def plain_place(n, spot):
    """Return the place of the integers nearest to each fraction of a spot by itself."""
    need_spot(n, spot)
    return rounded(spot)


def gap(form, spot, place):
    """Return the size of the difference of a spot and a place, a fraction."""
    need_spot_and_place(form, spot, place)
    return gap_by(form, spot, place)


def judge_nearest(form, spot, place):
    """Return a certificate that the place is nearest to the spot, or that it is not."""
    need_spot_and_place(form, spot, place)
    step = leading(form, walls(form), spot, place)
    return ("nearest",) if step is None else ("better", step)


def nearest_holds(form, spot, place, thing):
    """Tell whether any value is a right certificate for the spot and the place."""
    need_spot_and_place(form, spot, place)
    if has_word(thing, "nearest", 1):
        return leading(form, walls(form), spot, place) is None
    if not has_word(thing, "better", 2) or not wall_fits(form, thing[1]):
        return False
    return leading(form, thing[1:], spot, place) is not None


def walk(form, spot, place):
    """Return walls, each of which leads nearer, that lead from the place to a nearest one."""
    need_spot_and_place(form, spot, place)
    steps, _ = way(form, walls(form), spot, place)
    return steps


def nearest_places(form, spot):
    """Return the ascending tuple of all places nearest to the spot."""
    need_form(form)
    need_spot(len(form), spot)
    rows = obtuse_rows(form)
    return nearest_by(form, rows, shortest_in_classes(form, rows), spot)


def judge_plain(form):
    """Return a certificate that plain rounding is right for the form, or that it is not."""
    need_form(form)
    spot = wrong_spot(form)
    return ("right",) if spot is None else ("spot", spot)


def plain_holds(form, thing):
    """Tell whether any value is a right certificate for plain rounding by the form."""
    need_form(form)
    if has_word(thing, "right", 1):
        return wrong_spot(form) is None
    if not has_word(thing, "spot", 2) or not is_spot(len(form), thing[1]):
        return False
    return leading(form, walls(form), thing[1], rounded(thing[1])) is not None


def nearest_by(form, rows, steps, spot):
    """Return the ascending tuple of the nearest places, by obtuse rows and the shortest steps of all classes."""
    # Of two nearest places each is as near as the other to what is half way between them,
    # too, and none is nearer: so their difference is among the shortest of its class.
    start = led_by(rows[:-1], rounded(told_by(rows[:-1], spot)))
    _, place = way(form, steps, spot, start)
    return tuple(sorted([added(place, step) for step in tying(form, steps, spot, place)]))


def wrong_spot(form):
    """Return a spot whose plain place is not nearest, None if there is none."""
    # Let a be the size of the plain step at i, and b the lean at (i, j) without its sign.
    # Of the spot that has the fraction t below 1/2 at i, and t or -t at j as the lean is
    # above or below 0, noughts is the plain place, but the plain step at i is nearer as
    # soon as t is above a / (2 (a + b)). Half way from there to 1/2 is such a t.
    n = len(form)
    for i in range(n):
        for j in range(i):
            if form[i][j] != 0:
                a, b = form[i][i], abs(form[i][j])
                top = 2 * a + b
                tops = added(noughts_but(n, i, top), noughts_but(n, j, top if form[i][j] > 0 else -top))
                return lowest(tops, 4 * (a + b))
    return None


def need_spot(n, thing):
    """Raise BadSpot with a value that is no spot of n."""
    if not is_spot(n, thing):
        raise BadSpot(thing)


def need_spot_and_place(form, spot, place):
    """Raise BadForm, BadSpot or BadStep with the first value that is not what it should be."""
    need_form(form)
    need_spot(len(form), spot)
    need_step(len(form), place)
