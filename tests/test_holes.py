"""Promises 10.1 to 10.3: holes, hulls and hull sizes."""

import itertools
import math
import random
import time
import unittest
from fractions import Fraction

from nearsteps.cells import corners
from nearsteps.errors import BadForm, BadList, BadSpot
from nearsteps.holes import centre_of, hole_at, holes, hull_size, is_hole, judge_within, within_holds
from nearsteps.nearest import nearest_places
from odd_values import (
    NO_FORMS, ODD_VALUES, answer, error_of, is_plain_spot, is_plain_step, strict, variants,
)
from searches import (
    KINDS, SIX, TWELVE, corners_by_search, gap_of, nearest_by_search, point_of, random_form, slanted, spot_of,
)
from wide_searches import (
    BALLS, BODY, CUBE, SQUARE, are_plain_shares, combined, fraction_of, holes_by_search, is_full, is_spot_within,
    kinds_of_forms, moved, products, sides_beyond, sides_of, volume,
)


def some_forms():
    return kinds_of_forms(random.Random(131), 30, 1) + [((1, 5), (5, 26)), ((30, 29), (29, 30))]


def some_holes(chance, form):
    """Return pairs of a hole that begins with noughts, and the same moved by a place."""
    return [(hole, moved(hole, tuple(chance.randint(-50, 50) for _ in form))) for hole in holes_by_search(form)]


def mixed(chance, points):
    """Return a sum of the points, each times a share above 0, the shares together being 1."""
    shares = [chance.randint(1, 9) for _ in points]
    return tuple(sum(share * number for share, number in zip(shares, column)) / Fraction(sum(shares))
                 for column in zip(*points))


def some_spots(chance, form, hole):
    """Return spots within a hole, on its sides, edges and places, a little beyond them and far beyond."""
    middle = mixed(chance, hole)
    face = chance.choice([[place for place in hole if products(numbers, place) == end] for numbers, end in sides_of(hole)])
    points = [middle, hole[0], hole[-1], mixed(chance, face), mixed(chance, hole[:2]), mixed(chance, face[:2])]
    for edge in points[1:4]:
        for far in (Fraction(9999, 10000), Fraction(10001, 10000), Fraction(-2), Fraction(7)):
            points.append(tuple(a + far * (b - a) for a, b in zip(middle, edge)))
    points += [tuple(Fraction(chance.randint(-3 * 10 ** 5, 3 * 10 ** 5), 999983) for _ in form)]
    points += [point_of(chance.choice(corners_by_search(form)))]
    spots = [spot_of(tuple(map(Fraction, point))) for point in points]
    return [spot for spot in spots if is_spot_within(spot, len(form))]


def is_plain_hole(form, thing):
    """Tell whether a value is a hole: all places nearest to where some n of its differences are as far apart."""
    n = len(form)
    if type(thing) is not tuple or len(thing) <= n or not all(is_plain_step(n, place) for place in thing):
        return False
    start = tuple(-number for number in thing[0])
    return moved(thing, start) in holes_by_search(form)


def is_right(hole, spot, thing):
    """Tell whether a certificate for a hole and a spot is right, straight from the words of the document."""
    n, point = len(hole[0]), point_of(spot)
    if type(thing) is not tuple or len(thing) != 2:
        return False
    if thing[0] == "within":
        return are_plain_shares(hole, spot, thing[1])
    if thing[0] != "side" or not is_plain_step(n, thing[1]):
        return False
    return all(products(thing[1], point) > products(thing[1], place) for place in hole)


class ExamplesTest(unittest.TestCase):

    def test_holes(self):
        square, six = ((1, 0), (0, 1)), ((2, -1), (-1, 2))
        self.assertEqual(strict([
            holes(square), holes(six), [hull_size(six, hole) for hole in holes(six)], hull_size(square, holes(square)[0]),
            holes(((4,),)),
        ]), strict([
            (((0, 0), (0, 1), (1, 0), (1, 1)),), (((0, 0), (0, 1), (1, 1)), ((0, 0), (1, 0), (1, 1))), [1, 1], 2,
            (((0,), (1,)),),
        ]))

    def test_hulls(self):
        six = ((2, -1), (-1, 2))
        self.assertEqual(strict([
            is_hole(six, ((1, 0), (2, 0), (2, 1))), is_hole(six, ((0, 0), (1, 0))),
            centre_of(six, ((0, 0), (1, 0), (1, 1))), judge_within(six, ((0, 0), (1, 0), (1, 1)), ((2, 1), 3)),
            within_holds(six, ((0, 0), (1, 0), (1, 1)), ((0, 1), 1), ('side', (-1, 1))),
            is_hole(six, hole_at(six, ((5, 3), 7))),
        ]), strict([True, False, ((2, 1), 3), ('within', ((1, 3), (1, 3), (1, 3))), True, True]))


class HolesTest(unittest.TestCase):

    def test_holes(self):
        seen = set()
        for form in some_forms():
            told = answer(holes, form=form)
            self.assertEqual(strict(told), strict(tuple(holes_by_search(form))), form)
            self.assertTrue(all(is_full(hole) for hole in told))
            seen.add((len(form), tuple(sorted(map(len, told)))))
        # All kinds: boxes, prisms, pyramids, tetrahedra, octahedra.
        self.assertLessEqual({(1, (2,)), (2, (4,)), (2, (3, 3)), (3, (8,)), (3, (6, 6)), (3, (4, 4, 6)),
                              (3, (4, 4, 5, 5)), (3, (4,) * 6)}, seen)

    def test_known(self):
        self.assertEqual(holes(CUBE), (tuple(itertools.product((0, 1), repeat=3)),))
        self.assertEqual([len(hole) for hole in holes(BODY)], [4] * 6)
        self.assertEqual(holes(((1, 5), (5, 26))), (((0, 0), (1, 0), (5, -1), (6, -1)),))

    def test_moved_holes(self):
        chance = random.Random(132)
        for form in some_forms():
            for hole, other in some_holes(chance, form):
                self.assertIs(answer(is_hole, form=form, thing=hole), True)
                self.assertIs(answer(is_hole, form=form, thing=other), True)
                self.assertEqual(nearest_places(form, centre_of(form, other)), other)

    def test_nearly_holes(self):
        chance = random.Random(133)
        for form in some_forms():
            for _, hole in some_holes(chance, form):
                n = len(form)
                things = [hole[:-1], hole[1:], hole[::-1], hole + hole[-1:], hole[:1] + hole, hole[1:] + hole[:1], list(hole)]
                things += [hole[:-1] + (tuple(number + 1 for number in hole[-1]),), hole + (moved(hole, (1,) * n)[-1],)]
                things += [tuple(sorted(set(hole + moved(hole, (1,) + (0,) * (n - 1))))), (hole,), hole[:1], hole[:n]]
                things += [tuple(tuple(2 * number for number in place) for place in hole)]
                for thing in things:
                    self.assertIs(is_hole(form, thing), is_plain_hole(form, thing), thing)

    def test_each_tuple_of_small_places(self):
        for form, least, most in [(((3,),), -3, 3), (SQUARE, -1, 1), (SIX, -1, 1), (((1, 1), (1, 3)), -1, 1)]:
            places = list(itertools.product(range(least, most + 1), repeat=len(form)))
            for many in range(6):
                for thing in itertools.combinations(places, many):
                    self.assertIs(is_hole(form, thing), is_plain_hole(form, thing), thing)

    def test_any_values(self):
        for form in [((3,),), SQUARE, SIX, TWELVE]:
            hole = holes(form)[-1]
            for thing in ODD_VALUES + variants(hole)[::1 if len(form) < 3 else 3]:
                self.assertIs(answer(is_hole, form=form, thing=thing), is_plain_hole(form, thing), thing)
        self.assertIs(is_hole(((3,),), ((0,), (1,))), True)
        for thing in [((False,), (1,)), ((0,), (True,)), ([0], (1,)), [(0,), (1,)], ((1,), (0,)), ((0,), (1,), (2,)), ((0,),),
                      ((0,), (2,)), ((0, 0), (1, 0)), ()]:
            self.assertIs(is_hole(((3,),), thing), False)
        self.assertIs(is_hole(((3,),), ((10 ** 39,), (10 ** 39 + 1,))), True)
        self.assertIs(is_hole(SIX, tuple((number, 0) for number in range(660))), False)


class CentresTest(unittest.TestCase):

    def test_centres(self):
        chance = random.Random(134)
        for form in some_forms():
            for hole, other in some_holes(chance, form):
                spot = answer(centre_of, form=form, hole=other)
                self.assertTrue(is_plain_spot(len(form), spot))
                self.assertEqual(nearest_by_search(form, spot), list(other))
                self.assertEqual(len({gap_of(form, point_of(spot), place) for place in other}), 1)
                self.assertIn(centre_of(form, hole), corners_by_search(form))

    def test_known(self):
        self.assertEqual(centre_of(((3,),), ((-7,), (-6,))), ((-13,), 2))
        self.assertEqual(centre_of(CUBE, holes(CUBE)[0]), ((1, 1, 1), 2))

    def test_holes_around_noughts_have_the_corners_as_centres(self):
        for form in some_forms():
            around = [moved(hole, tuple(-number for number in place)) for hole in holes(form) for place in hole]
            self.assertEqual(sorted(centre_of(form, hole) for hole in around), list(corners(form)))


class HoleAtTest(unittest.TestCase):

    def test_spots(self):
        chance = random.Random(135)
        for form in some_forms():
            for hole, other in some_holes(chance, form)[::2]:
                for spot in some_spots(chance, form, hole)[::2] + some_spots(chance, form, other)[:4]:
                    told = hole_at(form, spot)
                    self.assertTrue(is_plain_hole(form, told), (form, spot, told))
                    self.assertEqual(sides_beyond(told, point_of(spot)), 0, (form, spot, told))
            answer(hole_at, form=form, spot=spot)

    def test_centres_of_holes(self):
        chance = random.Random(136)
        for form in some_forms():
            for _, other in some_holes(chance, form):
                inner = spot_of(mixed(chance, other))
                self.assertEqual(hole_at(form, inner), other)

    def test_far_spots(self):
        for form in some_forms():
            n = len(form)
            for spot in [((10 ** 6,) * n, 1), ((10 ** 6, -10 ** 6, 999999)[:n], 999983), ((-1, 0, 1)[:n], 10 ** 6)]:
                told = hole_at(form, spot)
                self.assertTrue(is_plain_hole(form, told))
                self.assertEqual(sides_beyond(told, point_of(spot)), 0)


class HullsTest(unittest.TestCase):

    def test_hull_sizes(self):
        chance = random.Random(137)
        for form in some_forms():
            n, total = len(form), 0
            for hole, other in some_holes(chance, form):
                told = answer(hull_size, form=form, hole=other)
                self.assertEqual(strict(told), strict(volume(hole)))
                self.assertEqual(hull_size(form, hole), told)
                self.assertGreaterEqual(told, 1)
                total += told
            self.assertEqual(total, math.factorial(n))
            plain = n == 1 or len(corners_by_search(form)) == {2: 6, 3: 24}[n]
            self.assertEqual(all(len(hole) == n + 1 for hole in holes(form)), plain)

    def test_known_hull_sizes(self):
        for form, told in [(((9,),), [1]), (SQUARE, [2]), (SIX, [1, 1]), (CUBE, [6]), (BODY, [1] * 6), (TWELVE, [1, 1, 4])]:
            self.assertEqual(sorted(hull_size(form, hole) for hole in holes(form)), told)
        # Of the kinds between: two prisms, two pyramids and two tetrahedra.
        self.assertEqual([hull_size(((2, -1, 0), (-1, 2, 0), (0, 0, 1)), hole)
                          for hole in holes(((2, -1, 0), (-1, 2, 0), (0, 0, 1)))], [3, 3])
        form = ((2, 0, -1), (0, 2, -1), (-1, -1, 3))
        self.assertEqual(sorted((len(hole), hull_size(form, hole)) for hole in holes(form)), [(4, 1), (4, 1), (5, 2), (5, 2)])

    def test_judged(self):
        chance, seen = random.Random(138), {}
        for form in some_forms():
            for _, other in some_holes(chance, form)[::2]:
                for spot in some_spots(chance, form, other)[::2]:
                    told = judge_within(form, other, spot)
                    beyond = sides_beyond(other, point_of(spot))
                    self.assertTrue(is_right(other, spot, told), (form, other, spot, told))
                    self.assertEqual(told[0], "side" if beyond else "within")
                    self.assertIs(within_holds(form, other, spot, told), True)
                    seen[len(form), min(beyond, 2)] = seen.get((len(form), min(beyond, 2)), 0) + 1
                answer(judge_within, form=form, hole=other, spot=spot)
                answer(within_holds, form=form, hole=other, spot=spot, thing=told)
        self.assertEqual(sorted(seen), [(1, 0), (1, 1), (2, 0), (2, 1), (2, 2), (3, 0), (3, 1), (3, 2)])
        self.assertGreater(min(seen.values()), 5)

    def test_places_and_edges(self):
        for form in list(KINDS) + [BALLS]:
            for hole in holes(form):
                for at, place in enumerate(hole):
                    told = ("within", tuple((int(i == at), 1) for i in range(len(hole))))
                    self.assertEqual(judge_within(form, hole, (place, 1)), told)
                    self.assertIs(within_holds(form, hole, (place, 1), told), True)
                    self.assertIs(within_holds(form, hole, (hole[at - 1], 1), told), False)
                for (i, one), (j, other) in itertools.combinations(enumerate(hole), 2):
                    half = spot_of(tuple(Fraction(a + b, 2) for a, b in zip(one, other)))
                    told = ("within", tuple((1, 2) if at in (i, j) else (0, 1) for at in range(len(hole))))
                    self.assertIs(within_holds(form, hole, half, told), True)
                    self.assertEqual(judge_within(form, hole, half)[0], "within")

    def test_other_shares_are_accepted(self):
        chance = random.Random(139)
        for form in list(KINDS) + [BALLS]:
            for hole in holes(form):
                for _ in range(2):
                    whole = [chance.choice([0, 1, 2, 97]) for _ in hole[1:]] + [1]
                    shares = [Fraction(share, sum(whole)) for share in whole]
                    spot = spot_of(combined(hole, shares))
                    thing = ("within", tuple(map(fraction_of, shares)))
                    self.assertIs(within_holds(form, hole, spot, thing), True)
                    # Not in lowest terms, with another sum, one below 0, in another order.
                    doubled = tuple((2 * top, 2 * bottom) for top, bottom in thing[1])
                    for other in [doubled, thing[1][:-1], thing[1] + ((0, 1),), thing[1][::-1], list(thing[1]),
                                  thing[1][:-1] + (fraction_of(shares[-1] + 1),),
                                  (fraction_of(shares[0] - 1), fraction_of(shares[1] + 1)) + thing[1][2:]]:
                        self.assertIs(within_holds(form, hole, spot, ("within", other)), is_right(hole, spot, ("within", other)))

    def test_shares_below_nought(self):
        # These give the spot, with the sum 1, but one of them is below 0.
        square = holes(SQUARE)[0]
        self.assertIs(within_holds(SQUARE, square, ((1, 1), 2), ("within", ((1, 2), (0, 1), (0, 1), (1, 2)))), True)
        self.assertIs(within_holds(SQUARE, square, ((1, 1), 2), ("within", ((1, 1), (-1, 2), (-1, 2), (1, 1)))), False)
        self.assertIs(within_holds(SQUARE, square, ((2, 2), 1), ("within", ((-1, 1), (0, 1), (0, 1), (2, 1)))), False)
        self.assertIs(within_holds(SQUARE, square, ((1, 1), 2), ("within", ((1, 4), (1, 4), (1, 4), (1, 4)))), True)

    def test_each_side(self):
        for form in [((3,),), SQUARE, SIX, CUBE, TWELVE]:
            n, chance = len(form), random.Random(140)
            for hole in holes(form):
                for spot in some_spots(chance, form, hole)[::2]:
                    for numbers in list(itertools.product(range(-2, 3), repeat=n))[::1 if n < 3 else 9]:
                        thing = ("side", numbers)
                        self.assertIs(within_holds(form, hole, spot, thing), is_right(hole, spot, thing))
        # As far as the places is not beyond them.
        self.assertIs(within_holds(SQUARE, holes(SQUARE)[0], ((1, 0), 1), ("side", (1, 0))), False)
        self.assertIs(within_holds(SQUARE, holes(SQUARE)[0], ((10 ** 6, 0), 999999), ("side", (1, 0))), True)
        self.assertIs(within_holds(SQUARE, holes(SQUARE)[0], ((10 ** 6, 0), 999999), ("side", (0, 0))), False)

    def test_any_values(self):
        for form, tops in [(((3,),), (1,)), (((3,),), (7,)), (SQUARE, (1, 2)), (SQUARE, (1, 4)), (SIX, (2, 1)), (CUBE, (1, 1, 1)),
                           (TWELVE, (1, 2, 4)), (BODY, (5, 5, -9))]:
            hole, spot = holes(form)[0], (tops, 3)
            things = variants(judge_within(form, hole, spot)) + variants(("side", tops))
            things += [("within", ((10 ** 39, 10 ** 39 - 1),) * len(hole)), ("within", ((1, 10 ** 39),) * len(hole))]
            for thing in ODD_VALUES + things[::1 if len(form) < 3 else 3]:
                self.assertIs(within_holds(form, hole, spot, thing), is_right(hole, spot, thing), thing)
            answer(within_holds, form=form, hole=hole, spot=spot, thing=things[0])
        line = ((0,), (1,))
        for shares, right in [(((1, 1), (0, 1)), True), (((True, 1), (0, 1)), False), (((1, 1), (False, 1)), False),
                              (((1, 1), (0, 2)), False), (((-1, -1), (0, 1)), False), (((1, 1), [0, 1]), False),
                              ([(1, 1), (0, 1)], False), (((1, 1), (0, 0)), False), (((1, 1),), False), ((), False)]:
            self.assertIs(within_holds(((3,),), line, ((0,), 1), ("within", shares)), right)


class ErrorsTest(unittest.TestCase):

    def test_bad_form(self):
        for thing in NO_FORMS + ODD_VALUES:
            self.assertIs(error_of(BadForm, holes, thing), thing)
            self.assertIs(error_of(BadForm, holes, form=thing), thing)
            for hole, spot in [(None, None), (((0,), (1,)), ((1,), 2)), (((1,),), ((2,), 2))]:
                for function in (is_hole, centre_of, hull_size):
                    self.assertIs(error_of(BadForm, function, thing, hole), thing)
                self.assertIs(error_of(BadForm, hole_at, thing, spot), thing)
                self.assertIs(error_of(BadForm, judge_within, thing, hole, spot), thing)
                self.assertIs(error_of(BadForm, judge_within, spot=spot, hole=hole, form=thing), thing)
                self.assertIs(error_of(BadForm, within_holds, thing, hole, spot, ("side", (1,))), thing)

    def test_bad_hole(self):
        for form in [((3,),), SQUARE, SIX, TWELVE]:
            n = len(form)
            hole = holes(form)[0]
            wrong = [hole[:-1], hole[::-1], list(hole), hole + hole[:1], (hole[0],), hole[1:]]
            for thing in ODD_VALUES + variants(hole)[::1 if n < 3 else 5] + wrong:
                if is_plain_hole(form, thing):
                    continue
                for function in (centre_of, hull_size):
                    self.assertIs(error_of(BadList, function, form, thing), thing)
                    self.assertIs(error_of(BadList, function, hole=thing, form=form), thing)
            for thing in wrong + ODD_VALUES[::4]:
                if is_plain_hole(form, thing):
                    continue
                for spot in (None, ((1,) * n, 2), ((2,) * n, 2)):
                    self.assertIs(error_of(BadList, judge_within, form, thing, spot), thing)
                    self.assertIs(error_of(BadList, within_holds, form, thing, spot, ("side", (1,) * n)), thing)
                    self.assertIs(error_of(BadList, within_holds, thing=None, spot=spot, hole=thing, form=form), thing)

    def test_bad_spot(self):
        for form in [((3,),), SIX, TWELVE]:
            n, hole = len(form), holes(form)[0]
            for thing in ODD_VALUES + variants(((3, 0, 1)[:n], 2)) + [((2,) * n, 2), ((1,) * n, 0), ((1,) * n, -1)]:
                if is_plain_spot(n, thing):
                    continue
                self.assertIs(error_of(BadSpot, hole_at, form, thing), thing)
                self.assertIs(error_of(BadSpot, hole_at, spot=thing, form=form), thing)
                self.assertIs(error_of(BadSpot, judge_within, form, hole, thing), thing)
                self.assertIs(error_of(BadSpot, within_holds, form, hole, thing, None), thing)


class QuickTest(unittest.TestCase):

    def test_quick(self):
        chance = random.Random(141)
        forms = [slanted(chance, form, 30)[0] for form in list(KINDS) + [random_form(chance, 3, 30)] if len(form) > 1]
        for form in forms + [CUBE]:
            n = len(form)
            hole = moved(holes(form)[0], (900,) * n)
            for spot in [((10 ** 6 - 1, 314159, -271828)[:n], 10 ** 6), spot_of(mixed(chance, hole))]:
                told = judge_within(form, hole, spot)
                for call in [lambda: holes(form), lambda: hole_at(form, spot), lambda: hull_size(form, hole),
                             lambda: judge_within(form, hole, spot), lambda: within_holds(form, hole, spot, told)]:
                    before = time.perf_counter()
                    call()
                    self.assertLess(time.perf_counter() - before, 0.5)


if __name__ == "__main__":
    unittest.main()
