"""Holes between places, in which every spot lies (part 10 of the document)."""

from itertools import combinations, permutations
from math import lcm

from nearsteps.cells import spot_between
from nearsteps.errors import BadList
from nearsteps.forms import need_form
from nearsteps.kinds import has_word, is_fraction, is_step
from nearsteps.nearest import need_spot, nearest_places
from nearsteps.obtuse import independent, obtuse_rows
from nearsteps.rows import added, added_times, determinant, led_by, noughts_of, opposite, signed, without
from nearsteps.spots import apart, fraction, lowest, told_by


def is_hole(form, thing):
    """Tell whether any value is a hole of the form."""
    need_form(form)
    if not isinstance(thing, tuple) or len(thing) == 0 or not all([is_step(len(form), place) for place in thing]):
        return False
    return moved(thing, opposite(thing[0])) in holes(form)


def holes(form):
    """Return the ascending tuple of all holes whose first place is that of noughts."""
    need_form(form)
    found = [hole_around(form, part) for part in plain_parts(form)]
    return tuple(sorted(set([moved(hole, opposite(hole[0])) for hole in found])))


def hole_at(form, spot):
    """Return a hole within which the spot lies."""
    need_form(form)
    need_spot(len(form), spot)
    # Led by obtuse rows, the spot lies in a box of whole numbers; of the parts of the box
    # the one has it that takes the rows in the order of what is left of its numbers.
    rows = obtuse_rows(form)[:-1]
    tops, bottom = told_by(rows, spot)
    whole = [top // bottom for top in tops]
    left = [top - bottom * number for top, number in zip(tops, whole)]
    order = sorted([(-part, at) for at, part in enumerate(left)])
    return moved(hole_around(form, part_by(rows, [at for _, at in order])), led_by(rows, whole))


def centre_of(form, hole):
    """Return the spot whose nearest places are those of the hole."""
    need_hole(form, hole)
    steps = independent(form, moved(hole, opposite(hole[0])))
    tops, bottom = spot_between(form, steps)
    return lowest(added_times(tops, hole[0], bottom), bottom)


def hull_size(form, hole):
    """Return n! times the volume of all spots within the hole."""
    need_hole(form, hole)
    # The places of each part have a determinant of 1 or -1.
    return len(parts_of(form, hole))


def judge_within(form, hole, spot):
    """Return a certificate that the spot lies within the hole, or beyond one of its sides."""
    need_hole_and_spot(form, hole, spot)
    shares = shares_within(form, hole, spot)
    if shares is not None:
        return ("within", shares)
    return ("side", side_before(hole, spot))


def within_holds(form, hole, spot, thing):
    """Tell whether any value is a right certificate for the hole and the spot."""
    need_hole_and_spot(form, hole, spot)
    if has_word(thing, "within", 2):
        return are_shares(len(hole), thing[1]) and sum_of_shares(hole, thing[1]) == spot
    if not has_word(thing, "side", 2) or not is_step(len(form), thing[1]):
        return False
    return is_beyond(hole, spot, thing[1])


def part_by(rows, order):
    """Return the sums of none, the first one, the first two and so on of the rows in this order."""
    part = [noughts_of(len(rows))]
    for at in order:
        part.append(added(part[-1], rows[at]))
    return tuple(part)


def plain_parts(form):
    """Return the parts, by obtuse rows, that fill up all spots if they are moved by all places."""
    rows = obtuse_rows(form)[:-1]
    return [part_by(rows, order) for order in permutations(range(len(rows)))]


def hole_around(form, part):
    """Return the hole that has the places of a plain part."""
    # These places are all nearest to one spot, as for the corners (B. Delone 1934).
    return nearest_places(form, spot_between(form, part[1:]))


def moved(places, by):
    """Return the places, each moved by a place."""
    return tuple([added(place, by) for place in places])


def parts_of(form, hole):
    """Return the parts that fill up the hole."""
    # As no part lies in two holes, these are all the parts with no other places.
    parts = [moved(part, place) for part in plain_parts(form) for place in hole]
    return [part for part in parts if all([place in hole for place in part])]


def shares_within(form, hole, spot):
    """Return a fraction for each place of the hole that together give the spot, None if it is beyond a side."""
    for part in parts_of(form, hole):
        steps = moved(part[1:], opposite(part[0]))
        tops, bottom = told_by(steps, lowest(apart(spot, part[0]), spot[1]))
        tops = (bottom - sum(tops),) + tops
        if min(tops) >= 0:
            shares = {place: fraction(top, bottom) for place, top in zip(part, tops)}
            return tuple([shares.get(place, (0, 1)) for place in hole])
    return None


def side_before(hole, spot):
    """Return numbers by which the spot lies beyond all places of a hole that hasn't got it within."""
    # One of the sides that go through n places of the hole is between them.
    for chosen in combinations(range(len(hole)), len(spot[0])):
        steps = [added_times(hole[at], hole[chosen[0]], -1) for at in chosen[1:]]
        numbers = across(steps, len(spot[0]))
        for side in (numbers, opposite(numbers)):
            if is_beyond(hole, spot, side):
                return side
    return None


def across(steps, n):
    """Return numbers whose sum with those of each of n - 1 steps, multiplied in pairs, is 0."""
    rows = (noughts_of(n),) + tuple(steps)
    return tuple([signed(at, determinant(without(rows, 0, at))) for at in range(n)])


def is_beyond(hole, spot, numbers):
    """Tell whether the sum of numbers, each times the spot's, is greater than that of each place of a hole."""
    tops, bottom = spot
    return all([along(numbers, tops) > bottom * along(numbers, place) for place in hole])


def along(numbers, step):
    """Return the sum of numbers, each times the step's number at its position."""
    return sum([number * more for number, more in zip(numbers, step)])


def are_shares(many, thing):
    """Tell whether any value is a tuple of so many fractions from 0 on with the sum 1."""
    if not isinstance(thing, tuple) or len(thing) != many or not all([is_fraction(share) for share in thing]):
        return False
    tops, bottom = over_one_bottom(thing)
    return min(tops) >= 0 and sum(tops) == bottom


def sum_of_shares(hole, shares):
    """Return the spot that is the sum of the places of a hole, each times its share."""
    tops, bottom = over_one_bottom(shares)
    return lowest(led_by(hole, tops), bottom)


def over_one_bottom(fractions):
    """Return the tops of some fractions over one bottom, and that bottom."""
    common = 1
    for _, bottom in fractions:
        common = lcm(common, bottom)
    return ([top * (common // bottom) for top, bottom in fractions], common)


def need_hole(form, thing):
    """Raise BadForm or BadList with the first value that is not what it should be."""
    if not is_hole(form, thing):
        raise BadList(thing)


def need_hole_and_spot(form, hole, spot):
    """Raise BadForm, BadList or BadSpot with the first value that is not what it should be."""
    need_hole(form, hole)
    need_spot(len(form), spot)
