"""Other ways to the answers: searches straight from the words of the document, by fractions."""

import functools
import itertools
from fractions import Fraction
from math import gcd, isqrt

from odd_values import plain_changed, plain_determinant, plain_lean

SIX = ((2, -1), (-1, 2))
TWELVE = ((2, -1, 0), (-1, 2, -1), (0, -1, 2))
# Forms, each with a most that is within the limits of part 2.
LINES = {
    ((1,),): 400, ((200,),): 400, ((1, 0), (0, 1)): 127, SIX: 210, ((1, 0), (0, 200)): 400, ((7, 3), (3, 5)): 400,
    ((1, 0, 0), (0, 1, 0), (0, 0, 1)): 20, TWELVE: 24, ((1, 0, 0), (0, 200, 0), (0, 0, 200)): 400,
    ((1, 0, 0), (0, 1, 0), (0, 0, 200)): 100, ((20, 7, -3), (7, 30, 11), (-3, 11, 40)): 150,
    ((139, 93, 97), (93, 155, 99), (97, 99, 81)): 400,
}
# One form of each of the kinds that [6.2] tells, with its counts.
KINDS = {
    ((1,),): (2, 2), ((1, 0), (0, 1)): (4, 4), SIX: (6, 6), ((1, 0, 0), (0, 1, 0), (0, 0, 1)): (6, 8),
    ((2, -1, 0), (-1, 2, 0), (0, 0, 1)): (8, 12), TWELVE: (12, 14), ((2, 0, -1), (0, 2, -1), (-1, -1, 3)): (12, 18),
    ((3, -1, -1), (-1, 3, -1), (-1, -1, 3)): (14, 24),
}


def range_around(middle, square):
    """Return the integers whose difference from a fraction has at most this square."""
    if square < 0:
        return range(0)
    root = isqrt(square.numerator // square.denominator) + 1
    numbers = range(-root + (middle.numerator // middle.denominator), root + middle.numerator // middle.denominator + 2)
    return [number for number in numbers if (number - middle) ** 2 <= square]


def places_within(form, point, most):
    """Return all places with a gap of at most this to a tuple of fractions, by completing squares from the last on."""
    n = len(form)
    rows = [[Fraction(number) for number in row] for row in form]
    for k in range(n):
        for i in range(k + 1, n):
            times = rows[i][k] / rows[k][k]
            rows[i] = [a - times * b for a, b in zip(rows[i], rows[k])]
    found = [((), Fraction(most))]
    for k in reversed(range(n)):
        longer = []
        for tail, left in found:
            off = [number - part for number, part in zip(tail, point[k + 1:])]
            middle = point[k] - sum(rows[k][k + 1 + at] * number for at, number in enumerate(off)) / rows[k][k]
            for number in range_around(middle, left / rows[k][k]):
                longer.append(((number,) + tail, left - rows[k][k] * (number - middle) ** 2))
        found = longer
    return sorted(place for place, _ in found)


def all_within(form, most):
    """Return all steps of at most this size."""
    return places_within(form, (Fraction(0),) * len(form), most)


def least_by_search(form):
    """Return the least size of a step other than noughts."""
    shortest = min(form[at][at] for at in range(len(form)))
    return min(plain_lean(form, step, step) for step in all_within(form, shortest) if any(step))


@functools.lru_cache(maxsize=None)
def classes_by_search(form):
    """Return the shortest steps of each class, each step longer than none of its class."""
    n, most, found = len(form), 1, {}
    while len(found) < 2 ** n:
        found, most = {}, 2 * most
        for step in all_within(form, most):
            found.setdefault(plain_class(step), []).append(step)
    return {kind: least_of(steps, lambda step: plain_lean(form, step, step)) for kind, steps in found.items()}


def plain_class(step):
    return tuple(number % 2 for number in step)


def least_of(things, key):
    """Return all of the things, in order, that have the least key."""
    least = min(map(key, things))
    return [thing for thing in things if key(thing) == least]


@functools.lru_cache(maxsize=None)
def walls_by_search(form):
    """Return the ascending list of the walls."""
    return sorted(step for steps in classes_by_search(form).values() if len(steps) == 2 for step in steps)


def point_of(spot):
    """Return the fractions that a spot stands for."""
    return tuple(Fraction(top, spot[1]) for top in spot[0])


def spot_of(point):
    """Return the spot that stands for some fractions."""
    bottom = 1
    for part in point:
        bottom = bottom * part.denominator // gcd(bottom, part.denominator)
    return (tuple(int(part * bottom) for part in point), bottom)


def gap_of(form, point, place):
    """Return the gap as a Fraction."""
    off = [part - number for part, number in zip(point, place)]
    return plain_lean(form, off, off)


@functools.lru_cache(maxsize=20000)
def nearest_by_search(form, spot):
    """Return the ascending list of the places nearest to a spot."""
    point, most, found = point_of(spot), Fraction(1, 8), []
    while not found:
        most *= 2
        found = places_within(form, point, most)
    return least_of(found, lambda place: gap_of(form, point, place))


def in_cell_by_search(form, spot):
    return (0,) * len(form) in nearest_by_search(form, spot)


def ties_by_search(form, spot):
    """Return the ascending list of the walls that are as near to a spot as noughts."""
    point = point_of(spot)
    here = gap_of(form, point, (0,) * len(form))
    return [wall for wall in walls_by_search(form) if gap_of(form, point, wall) == here]


def solved(rows, numbers):
    """Return the fractions that the rows lead to the numbers, by determinants; the rows' own is not 0."""
    whole = plain_determinant(rows)
    out = []
    for at in range(len(rows)):
        other = [tuple(numbers[i] if j == at else row[j] for j in range(len(rows))) for i, row in enumerate(rows)]
        out.append(Fraction(plain_determinant(other), whole))
    return tuple(out)


@functools.lru_cache(maxsize=None)
def corners_by_search(form):
    """Return the ascending list of the corners: each n independent walls tie somewhere; is it of the cell?"""
    n, found = len(form), set()
    around = walls_by_search(form)
    units = [tuple(int(i == j) for j in range(n)) for i in range(n)]
    for chosen in itertools.combinations(around, n):
        if plain_determinant(chosen) != 0:
            rows = [tuple(2 * plain_lean(form, wall, unit) for unit in units) for wall in chosen]
            point = solved(rows, [plain_lean(form, wall, wall) for wall in chosen])
            here = plain_lean(form, point, point)
            if all(gap_of(form, point, wall) >= here for wall in around):
                found.add(spot_of(point))
    return sorted(found)


def random_form(chance, n, most):
    """Return a form whose integers are at most so much in size."""
    while True:
        deep = chance.choice([1, 2, 3, 5, 8])
        rows = [tuple(chance.randint(-deep, deep) for _ in range(n)) for _ in range(n)]
        more = [chance.choice([0, 0, 1, 20, 100]) for _ in range(n)]
        form = tuple(
            tuple(sum(a * b for a, b in zip(rows[i], rows[j])) + (more[i] if i == j else 0) for j in range(n))
            for i in range(n)
        )
        square = all(plain_determinant([row[:k] for row in form[:k]]) > 0 for k in range(1, n + 1))
        if square and max(abs(number) for row in form for number in row) <= most:
            return form


def slanted(chance, form, most):
    """Return a form with rows added to others again and again, as far as the integers let, and the change."""
    n = len(form)
    change = tuple(tuple(int(i == j) for j in range(n)) for i in range(n))
    for _ in range(200 if n > 1 else 0):
        to, what = chance.sample(range(n), 2)
        times = chance.choice([-1, 1])
        rows = list(change)
        rows[to] = tuple(a + times * b for a, b in zip(rows[to], rows[what]))
        after = plain_changed(form, rows)
        if max(abs(number) for row in after for number in row) <= most:
            change = tuple(rows)
    return plain_changed(form, change), change
