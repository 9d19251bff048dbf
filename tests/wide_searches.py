"""Other ways to the answers of parts 7 to 11: searches straight from the words of the document, by fractions."""

import functools
import itertools
import math
from fractions import Fraction

from odd_values import is_plain_spot, is_plain_step, plain_changed, plain_determinant, plain_lean
from searches import (
    KINDS, all_within, classes_by_search, corners_by_search, gap_of, least_of, nearest_by_search, places_within,
    point_of, random_form, slanted, solved, spot_of,
)

SQUARE = ((1, 0), (0, 1))
CUBE = ((1, 0, 0), (0, 1, 0), (0, 0, 1))
# Two forms of n = 3 with the most motions beside the cube, by twelve and by fourteen walls.
BALLS = ((2, 1, 1), (1, 2, 1), (1, 1, 2))
BODY = ((3, -1, -1), (-1, 3, -1), (-1, -1, 3))


def units(n):
    return tuple(tuple(int(i == j) for j in range(n)) for i in range(n))


# Coarse tables with the index 1 and more, with determinants below 0, and with the greatest integers and indices.
TABLES = {
    1: [((1,),), ((-1,),), ((2,),), ((-3,),), ((6,),)],
    2: [units(2), ((0, 1), (1, 0)), ((1, 6), (0, -1)), ((2, 0), (0, 2)), ((3, 0), (0, -3)), ((1, 1), (1, -1)), ((6, 0), (0, 5)),
        ((6, 6), (-2, 3)), ((5, 6), (6, 6)), ((2, 1), (0, 3)), ((6, 1), (6, -4))],
    3: [units(3), ((0, 0, 1), (0, 1, 0), (1, 0, 0)), ((2, 0, 0), (0, 2, 0), (0, 0, 2)), ((3, 0, 0), (0, 3, 0), (0, 0, -3)),
        ((1, 1, 0), (1, -1, 0), (0, 1, 1)), ((1, 1, 1), (1, -1, 0), (0, 1, 3)), ((6, 6, 6), (6, 5, 6), (-6, 5, -1)),
        ((5, 0, 0), (0, 3, 0), (0, 0, 2)), ((6, 5, 4), (0, 1, 6), (1, 1, 1)), ((1, 0, 0), (0, 1, 0), (6, -6, 5))],
}
NO_TABLES = {
    1: [((0,),), (0,), [(1,)], ([1],), ((True,),), ((1,), (1,)), ((1, 2),), 1, ((None,),)],
    2: [((0, 0), (0, 0)), ((1, 2), (2, 4)), ((1, 0), (0, True)), [(1, 0), (0, 1)], ((1, 0), [0, 1]), ((1, 0),),
        ((1, 0), (0, 1), (1, 1)), ((1, 0, 0), (0, 1, 0)), ((1, 0), (0, "1")), units(3), ((1,),)],
    3: [((0,) * 3,) * 3, ((1, 2, 3), (4, 5, 6), (7, 8, 9)), units(2), units(3)[:2], ((1, 0, 0), (0, 1, 0), (0, 0, False)),
        ((1, 0, 0), (0, 1, 0), [0, 0, 1]), ((1, 0, 0), (0, 1, 0), (1, 1, 0)), units(3) + ((1, 1, 1),)],
}


def is_plain_fraction(thing):
    """Tell whether a value is a fraction, straight from the words of the document."""
    return is_plain_step(2, thing) and thing[1] > 0 and math.gcd(*thing) == 1


def fraction_of(part):
    """Return the pair that stands for a Fraction."""
    return (Fraction(part).numerator, Fraction(part).denominator)


def combined(rows, numbers):
    """Return the sum of the rows, each times its number."""
    return tuple(sum(number * part for number, part in zip(numbers, column)) for column in zip(*rows))


def moved(places, by):
    """Return the places, each moved by a place."""
    return tuple(tuple(a + b for a, b in zip(place, by)) for place in places)


def less(one, other):
    return tuple(a - b for a, b in zip(one, other))


def kinds_of_forms(chance, most, each):
    """Return one form of each kind, random ones and slanted ones, with integers of at most this size."""
    easy = [form for form in list(KINDS) + [BALLS] if max(map(max, form)) <= most]
    easy += [random_form(chance, n, most) for n in (1, 2, 3) for _ in range(each)]
    easy += [((most,),), ((1, 0, 0), (0, 2, 0), (0, 0, most))]
    return easy + [slanted(chance, form, most)[0] for form in easy if len(form) > 1]


def reach_by_search(form):
    """Return the greatest gap of a corner and noughts as a Fraction."""
    return max(plain_lean(form, point, point) for point in map(point_of, corners_by_search(form)))


def classes_of(n):
    return list(itertools.product((0, 1), repeat=n))


def signs_by_search(form):
    """Return the size of each class but that of noughts, the classes ascending."""
    return tuple(plain_lean(form, steps[0], steps[0])
                 for _, steps in sorted(classes_by_search(form).items()))[1:]


@functools.lru_cache(maxsize=None)
def renamings_by_search(n):
    """Return all tables of 0 and 1 with an odd determinant."""
    return [rows for rows in itertools.product(classes_of(n), repeat=n) if plain_determinant(rows) % 2]


@functools.lru_cache(maxsize=None)
def least_signs_by_search(form):
    n = len(form)
    sizes = dict(zip(classes_of(n)[1:], signs_by_search(form)))
    return min(tuple(sizes[tuple(number % 2 for number in combined(rows, kind))] for kind in classes_of(n)[1:])
               for rows in renamings_by_search(n))


def changes_by_search(one, other):
    """Return the ascending list of the changes by which one form becomes the other one."""
    n, found = len(one), [()]
    for at in range(n):
        steps = [step for step in all_within(one, other[at][at]) if plain_lean(one, step, step) == other[at][at]]
        found = [rows + (step,) for rows in found for step in steps
                 if all(plain_lean(one, row, step) == other[at][i] for i, row in enumerate(rows))]
    return sorted(rows for rows in found if plain_determinant(rows) in (1, -1))


def lot_key(coarse, place):
    """Return what is left of the numbers by which the rows give a place: the same for all places of a lot."""
    return tuple(number % 1 for number in numbers_by(coarse, place))


def is_coarse_place(coarse, place):
    """Tell whether the numbers by which the rows give a place are whole."""
    return all(number.denominator == 1 for number in numbers_by(coarse, place))


def numbers_by(coarse, point):
    """Return the fractions by which the rows give a point."""
    return solved(tuple(zip(*coarse)), point)


@functools.lru_cache(maxsize=20000)
def nearest_coarse_by_search(form, coarse, spot):
    """Return the ascending list of the coarse places that are nearest to a spot among them."""
    point, most, found = point_of(spot), Fraction(1, 2), []
    while not found:
        most *= 2
        found = [place for place in places_within(form, point, most) if is_coarse_place(coarse, place)]
    return least_of(found, lambda place: gap_of(form, point, place))


@functools.lru_cache(maxsize=None)
def one_of_each_lot(coarse):
    """Return a place of each lot, by a look at places farther and farther out."""
    n, found = len(coarse), []
    many = abs(plain_determinant(coarse))
    for place in itertools.product(range(many), repeat=n):
        if not any(is_coarse_place(coarse, less(place, other)) for other in found):
            found.append(place)
        if len(found) == many:
            return found


def leaders_by_search(form, coarse, place):
    """Return the ascending list of the shortest places of a lot, by a search around noughts."""
    most = plain_lean(form, place, place)
    return least_of([step for step in all_within(form, most) if is_coarse_place(coarse, less(step, place))],
                    lambda step: plain_lean(form, step, step))


def stages_are_right(form, coarse):
    """Tell whether two stages are right, by places of all lots and all corners [9.2]."""
    for place in one_of_each_lot(coarse):
        for coarse_place in nearest_coarse_by_search(form, coarse, (place, 1)):
            for corner in corners_by_search(form):
                spot = spot_of(tuple(a + b for a, b in zip(point_of(corner), place)))
                if coarse_place not in nearest_coarse_by_search(form, coarse, spot):
                    return False
    return True


def is_full(places):
    """Tell whether some n differences of places have a determinant other than 0."""
    steps = [less(place, places[0]) for place in places]
    return any(plain_determinant(rows) for rows in itertools.combinations(steps, len(places[0])))


@functools.lru_cache(maxsize=None)
def holes_by_search(form):
    """Return the ascending list of the holes that begin with noughts: each has a corner as its centre."""
    found = [tuple(nearest_by_search(form, corner)) for corner in corners_by_search(form)]
    return sorted(hole for hole in found if not any(hole[0]))


def normals(n, places):
    """Return numbers across each n of the places, each way."""
    for chosen in itertools.combinations(places, n):
        steps = [less(place, chosen[0]) for place in chosen[1:]]
        numbers = tuple(plain_determinant([unit] + steps) for unit in units(n))
        if any(numbers):
            yield numbers
            yield tuple(-number for number in numbers)


def products(numbers, point):
    return sum(a * b for a, b in zip(numbers, point))


def sides_of(hole):
    """Return pairs of numbers and how far places of the hole go along them, one pair for each side."""
    for numbers in normals(len(hole[0]), hole):
        ends = [products(numbers, place) for place in hole]
        if sum(end == max(ends) for end in ends) >= len(hole[0]):
            yield numbers, max(ends)


def sides_beyond(hole, point):
    """Return on how many sides of a hole a point lies beyond."""
    told = {(tuple(Fraction(number, math.gcd(*numbers)) for number in numbers)) for numbers, end in sides_of(hole)
            if products(numbers, point) > end}
    return len(told)


def volume(hole):
    """Return n! times the volume of a hole's hull: from its first place pyramids over all sides, of parts."""
    n = len(hole[0])
    if n == 1:
        return abs(hole[1][0] - hole[0][0])
    seen, total = set(), 0
    for numbers, end in sides_of(hole):
        face = tuple(place for place in hole if products(numbers, place) == end)
        if face not in seen and hole[0] not in face:
            seen.add(face)
            total += sum(abs(plain_determinant([less(place, hole[0]) for place in part])) for part in fan(face, numbers))
    return total


def fan(face, numbers):
    """Return the edges of a face of n = 2, or triangles that fill up one of n = 3, as tuples of places."""
    if len(face[0]) == 2:
        return [face]
    first = face[0]

    def turn(one, other):
        return products(numbers, tuple(plain_determinant([unit, less(one, first), less(other, first)])
                                       for unit in units(3)))
    rest = sorted(face[1:], key=functools.cmp_to_key(lambda one, other: -1 if turn(one, other) > 0 else 1))
    return [(first, one, other) for one, other in zip(rest, rest[1:])]


def are_plain_shares(hole, spot, thing):
    """Tell whether a value is a tuple of fractions that give the spot, straight from the words of the document."""
    if type(thing) is not tuple or len(thing) != len(hole) or not all(map(is_plain_fraction, thing)):
        return False
    shares = [Fraction(*share) for share in thing]
    return min(shares) >= 0 and sum(shares) == 1 and combined(hole, shares) == point_of(spot)


def is_spot_within(thing, n, most=10 ** 6):
    """Tell whether a value is a spot whose integers are at most so great."""
    return is_plain_spot(n, thing) and max(map(abs, thing[0] + (thing[1],))) <= most


def random_change(chance, n, most, times=6):
    """Return a change made by adding rows to others, exchanging them and turning them over."""
    rows = list(units(n))
    for _ in range(times):
        to, what = chance.randrange(n), chance.randrange(n)
        if to == what:
            rows[to] = tuple(-number for number in rows[to])
        elif chance.random() < 0.3:
            rows[to], rows[what] = rows[what], rows[to]
        else:
            sign = chance.choice([-1, 1])
            rows[to] = tuple(a + sign * b for a, b in zip(rows[to], rows[what]))
        if max(abs(number) for row in rows for number in row) > most:
            return random_change(chance, n, most, times)
    return tuple(rows)


def random_coarse(chance, n, most, greatest):
    """Return a coarse table with integers of at most this size and an index of at most the greatest one."""
    while True:
        rows = tuple(tuple(chance.randint(-most, most) for _ in range(n)) for _ in range(n))
        if 0 < abs(plain_determinant(rows)) <= greatest:
            return rows


def form_within(form, most):
    return max(abs(number) for row in form for number in row) <= most


def changed_within(chance, form, most):
    """Return a changed form with integers of at most this size, and its change."""
    while True:
        change = random_change(chance, len(form), 10)
        if form_within(plain_changed(form, change), most):
            return plain_changed(form, change), change
