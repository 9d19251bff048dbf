"""Promises 6.1 and 6.2: cells, corners, faces and counts."""

import itertools
import random
import time
import unittest
from fractions import Fraction

from nearsteps.cells import corner_holds, corners, counts, face_of, is_in_cell, judge_corner
from nearsteps.errors import BadForm, BadSpot, BadStep
from odd_values import (
    NO_FORMS, ODD_VALUES, answer, error_of, is_plain_spot, is_plain_step, plain_determinant, strict, variants,
)
from searches import (
    KINDS, LINES, SIX, TWELVE, corners_by_search, gap_of, in_cell_by_search, point_of, random_form, slanted, spot_of,
    ties_by_search, walls_by_search,
)

SQUARE = ((1, 0), (0, 1))
CUBE = ((1, 0, 0), (0, 1, 0), (0, 0, 1))


def some_forms():
    """Return easy forms, random ones and forms slanted as far as the integers let."""
    chance = random.Random(71)
    easy = [form for form in list(KINDS) + list(LINES) if max(map(max, form)) <= 60]
    easy += [random_form(chance, n, 60) for n in (1, 2, 3) for _ in range(8)]
    easy += [((60,),), ((1, 0), (0, 60)), ((1, 7), (7, 50)), ((60, 59), (59, 60)), ((1, 0, 0), (0, 1, 0), (0, 0, 60))]
    return easy + [slanted(chance, form, 60)[0] for form in easy if len(form) > 1]


def mixed(chance, points):
    """Return a sum of the points, each times a share above 0, the shares together being 1."""
    shares = [chance.randint(1, 5) for _ in points]
    return tuple(sum(share * number for share, number in zip(shares, column)) / Fraction(sum(shares))
                 for column in zip(*points))


def some_spots(chance, form):
    """Return corners, middles of corners, spots of faces and edges, and a little within and beyond of all of these."""
    n = len(form)
    ends = [point_of(corner) for corner in corners_by_search(form)]
    wall = chance.choice(walls_by_search(form))
    face = [point for point in ends if wall in ties_by_search(form, spot_of(point))]
    one, other = chance.choice(ends), chance.choice(face)
    points = [(Fraction(0),) * n, one, other, mixed(chance, ends), mixed(chance, face), mixed(chance, [one, other]),
              mixed(chance, ends[:2]), mixed(chance, face[:2])]
    points += [tuple((a + b) / 2 for a, b in pair) for pair in (list(zip(one, other)), list(zip(face[0], face[-1])))]
    points += [tuple(times * a for a in point) for point in points[1:] for times in
               (Fraction(9999, 10000), Fraction(10001, 10000), Fraction(3))]
    points += [tuple(Fraction(chance.randint(-3 * 10 ** 5, 3 * 10 ** 5), bottom) for _ in range(n))
               for bottom in (10 ** 6, 999983, 10 ** 5)]
    spots = [spot_of(point) for point in points] + [((1,) + (0,) * (n - 1), 10 ** 6), ((1,) * n, 1)]
    return [spot for spot in spots if max(map(abs, spot[0] + (spot[1],))) <= 10 ** 6]


def is_right(form, spot, thing):
    """Tell whether a certificate for a spot is right, straight from the words of the document."""
    n = len(form)
    if type(thing) is not tuple or not thing:
        return False
    if thing[0] == "corner" and len(thing) == 2 and type(thing[1]) is tuple and len(thing[1]) == n:
        if not all(is_plain_step(n, step) for step in thing[1]) or list(thing[1]) != sorted(set(thing[1])):
            return False
        ties = ties_by_search(form, spot)
        return (in_cell_by_search(form, spot) and all(step in ties for step in thing[1])
                and plain_determinant(thing[1]) != 0)
    if thing[0] == "outside" and len(thing) == 2 and is_plain_step(n, thing[1]):
        point = point_of(spot)
        return (thing[1] in walls_by_search(form)
                and gap_of(form, point, thing[1]) < gap_of(form, point, (0,) * n))
    if thing[0] == "middle" and len(thing) == 3 and all(is_plain_spot(n, end) for end in thing[1:]):
        one, other = map(point_of, thing[1:])
        return (one != other and tuple((a + b) / 2 for a, b in zip(one, other)) == point_of(spot)
                and all(in_cell_by_search(form, end) for end in thing[1:]))
    return False


def kind_by_search(form, spot):
    """Return the word of the certificates of a spot: a corner is a spot at which n independent walls tie."""
    if not in_cell_by_search(form, spot):
        return "outside"
    return "corner" if spot in corners_by_search(form) else "middle"


class ExamplesTest(unittest.TestCase):

    def test_corners(self):
        square, six = ((1, 0), (0, 1)), ((2, -1), (-1, 2))
        self.assertEqual(strict([corners(six), face_of(six, (1, 0)), counts(square), counts(six), counts(((3,),))]), strict([
            (((-2, -1), 3), ((-1, -2), 3), ((-1, 1), 3), ((1, -1), 3), ((1, 2), 3), ((2, 1), 3)),
            (((1, -1), 3), ((2, 1), 3)), (4, 4), (6, 6), (2, 2),
        ]))

    def test_spots(self):
        square = ((1, 0), (0, 1))
        self.assertEqual(strict([
            is_in_cell(square, ((1, 1), 2)), judge_corner(square, ((1, 1), 2)), judge_corner(square, ((1, 0), 2))[0],
            judge_corner(square, ((2, 0), 3)),
            corner_holds(square, ((1, 0), 2), ('middle', ((1, -1), 2), ((1, 1), 2))),
        ]), strict([True, ('corner', ((0, 1), (1, 0))), 'middle', ('outside', (1, 0)), True]))


class CornersTest(unittest.TestCase):

    def test_corners(self):
        for form in some_forms():
            self.assertEqual(strict(answer(corners, form=form)), strict(tuple(corners_by_search(form))), form)

    def test_known(self):
        self.assertEqual(corners(((7,),)), (((-1,), 2), ((1,), 2)))
        self.assertEqual(corners(SQUARE), (((-1, -1), 2), ((-1, 1), 2), ((1, -1), 2), ((1, 1), 2)))
        self.assertEqual(corners(CUBE), tuple((tops, 2) for tops in itertools.product((-1, 1), repeat=3)))
        self.assertEqual(corners(((1, 7), (7, 50))), (((-8, 1), 2), ((-6, 1), 2), ((6, -1), 2), ((8, -1), 2)))

    def test_faces(self):
        for form in some_forms():
            n, ends = len(form), corners_by_search(form)
            for wall in walls_by_search(form):
                told = tuple(end for end in ends if wall in ties_by_search(form, end))
                self.assertEqual(strict(answer(face_of, form=form, wall=wall)), strict(told))
                self.assertGreaterEqual(len(told), n)

    def test_known_faces(self):
        self.assertEqual(face_of(((7,),), (-1,)), (((-1,), 2),))
        self.assertEqual(face_of(SQUARE, (0, -1)), (((-1, -1), 2), ((1, -1), 2)))
        self.assertEqual(face_of(CUBE, (1, 0, 0)), tuple(((1, a, b), 2) for a in (-1, 1) for b in (-1, 1)))
        eight = ((3, -1, -1), (-1, 3, -1), (-1, -1, 3))
        self.assertEqual(sorted(len(face_of(eight, wall)) for wall in walls_by_search(eight)), [4] * 6 + [6] * 8)

    def test_counts(self):
        for form, told in KINDS.items():
            self.assertEqual(strict(answer(counts, form=form)), strict(told))
        kinds = {1: {(2, 2)}, 2: {(4, 4), (6, 6)}, 3: {(6, 8), (8, 12), (12, 14), (12, 18), (14, 24)}}
        seen = set()
        for form in some_forms():
            told = counts(form)
            self.assertEqual(told, (len(walls_by_search(form)), len(corners_by_search(form))))
            self.assertIn(told, kinds[len(form)])
            seen.add(told)
        self.assertEqual(seen, kinds[1] | kinds[2] | kinds[3])

    def test_counts_of_a_changed_form(self):
        chance = random.Random(72)
        for form, told in KINDS.items():
            for _ in range(5):
                self.assertEqual(counts(slanted(chance, form, 60)[0]), told)


class SpotsTest(unittest.TestCase):

    def test_judged(self):
        chance, seen = random.Random(73), {}
        for form in some_forms():
            for spot in some_spots(chance, form):
                told = judge_corner(form, spot)
                self.assertTrue(is_right(form, spot, told), (form, spot, told))
                self.assertEqual(told[0], kind_by_search(form, spot))
                self.assertIs(corner_holds(form, spot, told), True)
                self.assertIs(is_in_cell(form, spot), in_cell_by_search(form, spot))
                seen[len(form), told[0]] = seen.get((len(form), told[0]), 0) + 1
            answer(judge_corner, form=form, spot=spot)
            answer(is_in_cell, form=form, spot=spot)
            answer(corner_holds, form=form, spot=spot, thing=told)
        self.assertEqual(sorted(seen), sorted(itertools.product((1, 2, 3), ("corner", "middle", "outside"))))
        self.assertGreater(min(seen.values()), 5)

    def test_corners_and_middles_of_corners(self):
        for form in some_forms()[::2]:
            ends = corners_by_search(form)
            for end in ends:
                self.assertEqual(judge_corner(form, end)[0], "corner")
                self.assertTrue(is_right(form, end, judge_corner(form, end)))
            for one, other in list(itertools.combinations(ends, 2))[:20]:
                half = spot_of(tuple((a + b) / 2 for a, b in zip(point_of(one), point_of(other))))
                self.assertEqual(judge_corner(form, half)[0], "middle")
                for thing in [("middle", one, other), ("middle", other, one)]:
                    self.assertIs(corner_holds(form, half, thing), True)
                    self.assertIs(corner_holds(form, one, thing), False)

    def test_noughts(self):
        for form in some_forms():
            spot = ((0,) * len(form), 1)
            told = judge_corner(form, spot)
            self.assertEqual(told[0], "middle")
            self.assertTrue(is_right(form, spot, told))
            self.assertIs(is_in_cell(form, spot), True)

    def test_each_choice_of_walls(self):
        # Of the walls that tie at a corner each n with a determinant other than 0 are told, ascending.
        chance = random.Random(74)
        for form in list(KINDS) + [((1, 7), (7, 50))]:
            n, around = len(form), walls_by_search(form)
            for spot in corners_by_search(form)[:3] + some_spots(chance, form)[3:6]:
                chosen = list(itertools.product(around, repeat=n))
                for thing in [("corner", some) for some in chosen[::1 if n < 3 else 7]]:
                    self.assertIs(corner_holds(form, spot, thing), is_right(form, spot, thing))
                for some in itertools.combinations(ties_by_search(form, spot), n):
                    self.assertIs(corner_holds(form, spot, ("corner", some)), is_right(form, spot, ("corner", some)))
                for wall in itertools.product(range(-2, 3), repeat=n):
                    self.assertIs(corner_holds(form, spot, ("outside", wall)), is_right(form, spot, ("outside", wall)))

    def test_walls_that_tie_outside_of_the_cell(self):
        # As near as noughts are these walls there, but a third one is nearer.
        beyond = 0
        for form in KINDS:
            n = len(form)
            for tops in itertools.product(range(-6, 7, 1 if n < 3 else 2), repeat=n):
                for bottom in (2, 3) if n < 3 else (4,):
                    spot = spot_of(tuple(Fraction(top, bottom) for top in tops))
                    for some in itertools.combinations(ties_by_search(form, spot), n):
                        thing = ("corner", some)
                        self.assertIs(corner_holds(form, spot, thing), is_right(form, spot, thing))
                        beyond += plain_determinant(some) != 0 and not in_cell_by_search(form, spot)
        self.assertGreater(beyond, 5)

    def test_each_pair_of_ends(self):
        halves = [spot_of((Fraction(a, 4), Fraction(b, 4))) for a in range(-3, 4) for b in range(-3, 4)]
        for form in (SQUARE, SIX):
            for spot in [((0, 0), 1), ((1, 0), 2), ((1, 1), 4), ((1, 1), 2), ((2, 1), 3), ((3, 0), 4)]:
                for thing in itertools.product(("middle",), halves[::2], halves):
                    self.assertIs(corner_holds(form, spot, thing), is_right(form, spot, thing))

    def test_ends_a_little_beyond(self):
        for far, right in [(Fraction(1, 2), True), (Fraction(500001, 10 ** 6), False), (Fraction(499999, 10 ** 6), True)]:
            one, other = spot_of((far, far)), spot_of((far, -far))
            spot = spot_of((far, Fraction(0)))
            self.assertIs(corner_holds(SQUARE, spot, ("middle", one, other)), right)
            self.assertIs(is_in_cell(SQUARE, one), right)
        self.assertIs(corner_holds(SQUARE, ((0, 0), 1), ("middle", ((0, 0), 1), ((0, 0), 1))), False)
        self.assertIs(corner_holds(SQUARE, ((1, 1), 2), ("middle", ((1, 1), 2), ((1, 1), 2))), False)

    def test_any_values(self):
        for form in [((3,),), SQUARE, SIX, CUBE]:
            n = len(form)
            end = corners_by_search(form)[-1]
            for spot in [end, ((0,) * n, 1), ((2,) * n, 3)]:
                things = variants(judge_corner(form, spot)) + variants(("outside", walls_by_search(form)[0]))
                things += variants(("corner", judge_corner(form, end)[1])) if n < 3 else []
                for thing in ODD_VALUES + things:
                    self.assertIs(corner_holds(form, spot, thing), is_right(form, spot, thing), thing)
        half = ((1, 1), 2)
        for thing, right in [(((0, 1), (1, 0)), True), (((1, 0), (0, 1)), False), (((0, True), (1, 0)), False),
                             ([(0, 1), (1, 0)], False), (((0, 1), [1, 0]), False), (((0, 1),), False),
                             (((0, 1), (0, 1)), False), (((0, 1), (1, 0), (1, 1)), False), (((0, 1), (1, 1)), False),
                             (((-1, 0), (0, 1)), False)]:
            self.assertIs(answer(corner_holds, form=SQUARE, spot=half, thing=("corner", thing)), right)
        one, other = ((1, -1), 2), ((1, 1), 2)
        for ends, right in [((one, other), True), ((other, one), True), ((one,), False), ((one, other, one), False),
                            ((one, ((2, 2), 4)), False), ((one, ((-1, -1), -2)), False), ((one, ((True, 1), 2)), False),
                            ((one, [(1, 1), 2]), False), (([(1, -1), 2], other), False), ((one, one), False)]:
            self.assertIs(answer(corner_holds, form=SQUARE, spot=((1, 0), 2), thing=("middle",) + ends), right)


class ErrorsTest(unittest.TestCase):

    def test_bad_form(self):
        for thing in NO_FORMS + ODD_VALUES:
            for other in (None, ((1,), 2), (1,)):
                for function in (is_in_cell, judge_corner, face_of):
                    self.assertIs(error_of(BadForm, function, thing, other), thing)
                self.assertIs(error_of(BadForm, corner_holds, thing, other, ("corner", ((1,),))), thing)
                self.assertIs(error_of(BadForm, corner_holds, thing=None, spot=other, form=thing), thing)
                self.assertIs(error_of(BadForm, face_of, wall=other, form=thing), thing)
            for function in (corners, counts):
                self.assertIs(error_of(BadForm, function, thing), thing)
                self.assertIs(error_of(BadForm, function, form=thing), thing)

    def test_bad_spot(self):
        for form in [((3,),), SIX, TWELVE]:
            n = len(form)
            for thing in ODD_VALUES + variants(((3, 0, 1)[:n], 2)) + [((2,) * n, 2), ((1,) * n, 0), ((1,) * n, -1)]:
                if is_plain_spot(n, thing):
                    continue
                for function in (is_in_cell, judge_corner):
                    self.assertIs(error_of(BadSpot, function, form, thing), thing)
                    self.assertIs(error_of(BadSpot, function, spot=thing, form=form), thing)
                for other in (None, ("corner", ())):
                    self.assertIs(error_of(BadSpot, corner_holds, form, thing, other), thing)

    def test_bad_wall(self):
        for form in [((3,),), SQUARE, SIX, CUBE, TWELVE]:
            n, around = len(form), walls_by_search(form)
            for thing in ODD_VALUES + variants(around[-1]) + list(itertools.product(range(-2, 3), repeat=n)):
                if is_plain_step(n, thing) and thing in around:
                    self.assertTrue(face_of(form, thing))
                else:
                    self.assertIs(error_of(BadStep, face_of, form, thing), thing)
                    self.assertIs(error_of(BadStep, face_of, wall=thing, form=form), thing)


class QuickTest(unittest.TestCase):

    def test_quick(self):
        chance = random.Random(75)
        for form in some_forms():
            spot = some_spots(chance, form)[-2]
            told = judge_corner(form, spot)
            for call in [lambda: corners(form), lambda: counts(form), lambda: judge_corner(form, spot),
                         lambda: corner_holds(form, spot, told)]:
                before = time.perf_counter()
                call()
                self.assertLess(time.perf_counter() - before, 0.5)


if __name__ == "__main__":
    unittest.main()
