"""Coarse places, and looking for them in two stages (part 9 of the document)."""

from nearsteps.cells import corners
from nearsteps.errors import BadCoarse
from nearsteps.forms import need_form
from nearsteps.kinds import has_word, is_square, is_step
from nearsteps.lots import all_words, word_by
from nearsteps.nearest import is_spot, need_spot, nearest_by
from nearsteps.obtuse import obtuse_rows, shortest_in_classes
from nearsteps.rows import added_times, determinant, lean_by, leans_by, led_by, noughts_of
from nearsteps.spots import growth, leading, lowest, told_by
from nearsteps.walls import walls


def is_coarse(n, thing):
    """Tell whether any value is a coarse table for n."""
    return is_square(n, thing) and determinant(thing) != 0


def index(n, coarse):
    """Return how many lots the places fall into."""
    need_coarse(n, coarse)
    return abs(determinant(coarse))


def coarse_form(form, coarse):
    """Return the form of the leans of the rows of a coarse table."""
    need_form(form)
    need_coarse(len(form), coarse)
    return leans_by(form, coarse)


def nearest_coarse(form, coarse, spot):
    """Return the ascending tuple of the coarse places, told as places, nearest to the spot among them."""
    need_form(form)
    need_coarse(len(form), coarse)
    need_spot(len(form), spot)
    return nearest_to_each(form, coarse, [spot])[0]


def judge_stages(form, coarse):
    """Return a certificate that two stages are right for every spot, or that they are not."""
    need_form(form)
    need_coarse(len(form), coarse)
    wrong = wrong_stages(form, coarse)
    return ("right",) if wrong is None else ("spot",) + wrong


def stages_hold(form, coarse, thing):
    """Tell whether any value is a right certificate for the form and the coarse table."""
    need_form(form)
    need_coarse(len(form), coarse)
    n = len(form)
    if has_word(thing, "right", 1):
        return wrong_stages(form, coarse) is None
    if not has_word(thing, "spot", 4) or not is_spot(n, thing[1]):
        return False
    if not is_step(n, thing[2]) or not is_step(n, thing[3]) or any(word_by(coarse, thing[3])):
        return False
    return is_wrong_way(form, coarse, thing[1:])


def is_wrong_way(form, coarse, told):
    """Tell whether both stages are right for a spot, a place and a coarse place, but not the two together."""
    spot, place, end = told
    steps = steps_of_coarse(form, coarse)
    if leading(form, walls(form), spot, place) is not None or leading(form, steps, (place, 1), end) is not None:
        return False
    return leading(form, steps, spot, end) is not None


def wrong_stages(form, coarse):
    """Return a spot, a place and a coarse place for which two stages are not right, None if there are none."""
    # Moved by a coarse place, all pairs of a place and a coarse place nearest to it become
    # those of a place and noughts. Noughts is nearest to the sum of the place and a corner
    # unless a coarse wall leads nearer: so only the places that lie farthest along a wall
    # need be looked at.
    found = places_around(form, coarse)
    ends = corners(form)
    for step in steps_of_coarse(form, coarse):
        place = max(found, key=lambda one: lean_by(form, one, step))
        for tops, bottom in ends:
            moved = added_times(tops, place, bottom)
            if growth(form, moved, bottom, step) < 0:
                return (lowest(moved, bottom), place, noughts_of(len(form)))
    return None


def places_around(form, coarse):
    """Return the places to which noughts is nearest among the coarse places."""
    chosen = all_words(coarse)
    ends = nearest_to_each(form, coarse, [(word, 1) for word in chosen])
    return [added_times(word, end, -1) for word, each in zip(chosen, ends) for end in each]


def nearest_to_each(form, coarse, spots):
    """Return for each spot the ascending tuple of the coarse places nearest to it among them."""
    sums = leans_by(form, coarse)
    rows = obtuse_rows(sums)
    steps = shortest_in_classes(sums, rows)
    found = [nearest_by(sums, rows, steps, told_by(coarse, spot)) for spot in spots]
    return [tuple(sorted([led_by(coarse, numbers) for numbers in each])) for each in found]


def steps_of_coarse(form, coarse):
    """Return the walls of the coarse form, told as places."""
    return [led_by(coarse, wall) for wall in walls(leans_by(form, coarse))]


def need_coarse(n, thing):
    """Raise BadCoarse with a value that is no coarse table for n."""
    if not is_coarse(n, thing):
        raise BadCoarse(thing)
