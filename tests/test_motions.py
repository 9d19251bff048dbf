"""Promise 8.3: motions, and where they lead."""

import itertools
import random
import time
import unittest
from fractions import Fraction

from nearsteps.cells import corners
from nearsteps.errors import BadChange, BadForm, BadSpot
from nearsteps.forms import back, changed, is_change, led
from nearsteps.motions import motions, spot_led
from nearsteps.nearest import nearest_places
from nearsteps.walls import walls
from odd_values import (
    NO_FORMS, ODD_VALUES, answer, error_of, is_plain_spot, plain_changed, strict, variants,
)
from searches import (
    KINDS, SIX, TWELVE, corners_by_search, nearest_by_search, point_of, random_form, slanted, spot_of, walls_by_search,
)
from wide_searches import (
    BALLS, BODY, CUBE, SQUARE, changes_by_search, combined, is_spot_within, kinds_of_forms, random_change, units,
)


def some_forms():
    return kinds_of_forms(random.Random(111), 40, 2) + [((1, 6), (6, 37)), ((40, 39), (39, 40))]


def some_spots(chance, form):
    n = len(form)
    points = [point_of(chance.choice(corners_by_search(form))) for _ in range(2)] + [(Fraction(1, 2),) * n]
    points += [tuple(a + chance.randint(-3, 3) for a in point) for point in points]
    points += [tuple(Fraction(chance.randint(-500, 500), 997) for _ in range(n))]
    return [spot_of(point) for point in points]


def product_of(one, other):
    """Return the rows of the first table, each led by the second one."""
    return tuple(combined(other, row) for row in one)


class ExamplesTest(unittest.TestCase):

    def test_motions(self):
        SQUARE, SIX = ((1, 0), (0, 1)), ((2, -1), (-1, 2))
        self.assertEqual(strict([
            len(motions(SQUARE)), len(motions(SIX)), motions(((5,),)), spot_led(SQUARE, ((0, 1), (-1, 0)), ((1, 2), 3)),
        ]), strict([8, 12, (((-1,),), ((1,),)), ((-2, 1), 3)]))


class MotionsTest(unittest.TestCase):

    def test_motions(self):
        for form in some_forms():
            self.assertEqual(strict(answer(motions, form=form)), strict(tuple(changes_by_search(form, form))), form)

    def test_many_and_few(self):
        for form, many in [(((40,),), 2), (SQUARE, 8), (SIX, 12), (((1, 0), (0, 2)), 4), (((3, 1), (1, 5)), 2),
                           (((5, 2), (2, 5)), 4), (CUBE, 48), (BALLS, 48), (BODY, 48), (TWELVE, 48),
                           (((2, -1, 0), (-1, 2, 0), (0, 0, 1)), 24), (((1, 0, 0), (0, 1, 0), (0, 0, 2)), 16),
                           (((1, 0, 0), (0, 2, 0), (0, 0, 3)), 8), (((9, 1, 2), (1, 11, 3), (2, 3, 14)), 2)]:
            self.assertEqual(len(motions(form)), many)
            if len(form) > 1:
                self.assertEqual(len(motions(slanted(random.Random(112), form, 40)[0])), many)

    def test_motions_of_motions(self):
        for form in list(KINDS) + [((1, 6), (6, 37)), BALLS]:
            n, told = len(form), motions(form)
            self.assertIn(units(n), told)
            for one in told:
                self.assertIs(is_change(n, one), True)
                self.assertEqual(changed(form, one), form)
                self.assertIn(back(n, one), told)
                self.assertIn(tuple(tuple(-number for number in row) for row in one), told)
            for one, other in list(itertools.product(told, repeat=2))[::7]:
                self.assertIn(product_of(one, other), told)

    def test_where_they_lead(self):
        chance = random.Random(113)
        for form in list(KINDS) + [((1, 6), (6, 37)), BALLS, slanted(chance, BODY, 40)[0]]:
            n = len(form)
            around, ends = walls_by_search(form), corners_by_search(form)
            for motion in motions(form)[::1 if n < 3 else 5]:
                self.assertEqual(sorted(led(n, motion, wall) for wall in around), around)
                self.assertEqual(sorted(spot_led(form, motion, end) for end in ends), ends)
                for spot in some_spots(chance, form)[::2]:
                    self.assertEqual(sorted(led(n, motion, place) for place in nearest_by_search(form, spot)),
                                     list(nearest_places(form, spot_led(form, motion, spot))))
            self.assertEqual((list(walls(form)), list(corners(form))), (around, ends))


class SpotLedTest(unittest.TestCase):

    def test_spot_led(self):
        chance = random.Random(114)
        for form in some_forms():
            n = len(form)
            for spot in some_spots(chance, form):
                for change in [random_change(chance, n, 10), chance.choice(motions(form)), units(n)]:
                    told = spot_of(combined(change, point_of(spot)))
                    self.assertEqual(strict(answer(spot_led, form=form, change=change, spot=spot)), strict(told))
                self.assertEqual(spot_led(form, units(n), spot), spot)

    def test_back(self):
        chance = random.Random(115)
        for form in some_forms():
            n = len(form)
            for spot in some_spots(chance, form):
                change = random_change(chance, n, 10)
                self.assertEqual(spot_led(form, back(n, change), spot_led(form, change, spot)), spot)

    def test_greatest_integers(self):
        self.assertEqual(spot_led(SQUARE, ((1, 10 ** 4), (0, 1)), ((10 ** 6, 999999), 10 ** 6)),
                         ((10 ** 6, 10 ** 10 + 999999), 10 ** 6))
        self.assertEqual(spot_led(((1,),), ((-1,),), ((-999999,), 10 ** 6)), ((999999,), 10 ** 6))
        self.assertEqual(spot_led(CUBE, ((1, 0, 0), (10 ** 4, 1, 0), (0, -10 ** 4, 1)), ((1, 2, 3), 7)),
                         ((1 + 2 * 10 ** 4, 2 - 3 * 10 ** 4, 3), 7))
        spot = ((10 ** 6, -10 ** 6, 1), 999983)
        self.assertTrue(is_spot_within(spot, 3))
        self.assertEqual(spot_led(TWELVE, units(3), spot), spot)

    def test_any_change_is_let(self):
        # The change need be no motion of the form.
        self.assertEqual(spot_led(((1, 0), (0, 7)), ((0, 1), (1, 0)), ((1, 2), 5)), ((2, 1), 5))


class ErrorsTest(unittest.TestCase):

    def test_bad_form(self):
        for thing in NO_FORMS + ODD_VALUES:
            self.assertIs(error_of(BadForm, motions, thing), thing)
            self.assertIs(error_of(BadForm, motions, form=thing), thing)
            for change, spot in [(None, None), (((1,),), ((1,), 2)), (((2,),), ((2,), 2))]:
                self.assertIs(error_of(BadForm, spot_led, thing, change, spot), thing)
                self.assertIs(error_of(BadForm, spot_led, spot=spot, change=change, form=thing), thing)

    def test_bad_change(self):
        for form in [((3,),), SIX, TWELVE]:
            n = len(form)
            wrong = [tuple((2,) + row[1:] for row in units(n)), ((0,) * n,) * n, units(n)[:-1], units(n) + ((0,) * n,),
                     list(units(n)), tuple(map(list, units(n))), ((True,) + units(n)[0][1:],) + units(n)[1:], units(n % 3 + 1)]
            for thing in wrong + [thing for thing in ODD_VALUES if not is_change(n, thing)]:
                for spot in (None, ((1,) * n, 2), ((2,) * n, 2)):
                    self.assertIs(error_of(BadChange, spot_led, form, thing, spot), thing)
                    self.assertIs(error_of(BadChange, spot_led, spot=spot, change=thing, form=form), thing)

    def test_bad_spot(self):
        for form in [((3,),), SIX, TWELVE]:
            n = len(form)
            for thing in ODD_VALUES + variants(((3, 0, 1)[:n], 2)) + [((2,) * n, 2), ((1,) * n, 0), ((1,) * n, -1)]:
                if not is_plain_spot(n, thing):
                    self.assertIs(error_of(BadSpot, spot_led, form, units(n), thing), thing)
                    self.assertIs(error_of(BadSpot, spot_led, spot=thing, form=form, change=units(n)), thing)


class QuickTest(unittest.TestCase):

    def test_quick(self):
        chance = random.Random(116)
        for form in list(KINDS) + [BALLS] + [random_form(chance, 3, 40) for _ in range(5)]:
            for one in [form, slanted(chance, form, 40)[0]]:
                before = time.perf_counter()
                told = motions(one)
                self.assertLess(time.perf_counter() - before, 0.5)
                self.assertTrue(all(plain_changed(one, motion) == one for motion in told))


if __name__ == "__main__":
    unittest.main()
