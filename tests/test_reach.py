"""Promise 7.1: reach, deepest corners and their certificates."""

import random
import time
import unittest
from fractions import Fraction

from nearsteps.errors import BadForm, BadFraction
from nearsteps.reach import deepest, judge_reach, reach, reach_holds
from odd_values import NO_FORMS, ODD_VALUES, answer, error_of, is_plain_spot, strict, variants
from searches import (
    SIX, TWELVE, corners_by_search, gap_of, nearest_by_search, point_of, random_form, slanted, spot_of,
)
from wide_searches import (
    BODY, CUBE, SQUARE, fraction_of, is_plain_fraction, is_spot_within, kinds_of_forms, reach_by_search,
)


def some_forms():
    return kinds_of_forms(random.Random(81), 60, 2) + [((1, 7), (7, 50)), ((60, 59), (59, 60))]


def around(chance, middle):
    """Return fractions just at, a little above and below, far above and 0, as pairs."""
    parts = [middle, middle + Fraction(1, 10 ** 6), middle - Fraction(1, 10 ** 6), middle * 2, middle / 2, Fraction(0)]
    parts += [Fraction(chance.randint(0, 10 ** 9), chance.randint(1, 10 ** 9)), Fraction(10 ** 9), Fraction(1, 10 ** 9)]
    return [fraction_of(part) for part in parts if part >= 0]


def some_spots(chance, form):
    """Return corners, spots a little within them, middles, places and others."""
    n = len(form)
    ends = [point_of(corner) for corner in corners_by_search(form)]
    points = [chance.choice(ends) for _ in range(3)] + [(Fraction(0),) * n, (Fraction(1, 2),) * n]
    points += [tuple(Fraction(9999, 10000) * a for a in points[0]), tuple((a + b) / 2 for a, b in zip(*points[:2]))]
    points += [tuple(a + chance.randint(-9, 9) for a in points[0])]
    points += [tuple(Fraction(chance.randint(-10 ** 6, 10 ** 6), 999983) for _ in range(n))]
    spots = [spot_of(point) for point in points]
    return [spot for spot in spots if is_spot_within(spot, n)]


def is_right(form, r, thing):
    """Tell whether a certificate for a form and r is right, straight from the words of the document."""
    if strict(thing) == strict(("within",)):
        return reach_by_search(form) <= Fraction(*r)
    if type(thing) is not tuple or len(thing) != 2 or thing[0] != "spot" or not is_plain_spot(len(form), thing[1]):
        return False
    return gap_of(form, point_of(thing[1]), nearest_by_search(form, thing[1])[0]) > Fraction(*r)


class ExamplesTest(unittest.TestCase):

    def test_reach(self):
        SQUARE, SIX = ((1, 0), (0, 1)), ((2, -1), (-1, 2))
        self.assertEqual(strict([
            reach(SQUARE), reach(SIX), len(deepest(SIX)), judge_reach(SIX, (2, 3)), judge_reach(SIX, (1, 2))[0],
            reach_holds(SQUARE, (1, 3), ('spot', ((1, 1), 2))),
        ]), strict([(1, 2), (2, 3), 6, ('within',), 'spot', True]))


class ReachTest(unittest.TestCase):

    def test_reach(self):
        for form in some_forms():
            told = answer(reach, form=form)
            self.assertEqual(strict(told), strict(fraction_of(reach_by_search(form))), form)

    def test_known(self):
        self.assertEqual([reach(((1,),)), reach(((60,),)), reach(CUBE), reach(((1, 0), (0, 3))), reach(TWELVE)],
                         [(1, 4), (15, 1), (3, 4), (1, 1), (1, 1)])
        self.assertEqual(reach(BODY), (5, 4))
        self.assertEqual(reach(((1, 7), (7, 50))), (1, 2))

    def test_deepest(self):
        seen = set()
        for form in some_forms():
            told = answer(deepest, form=form)
            ends = corners_by_search(form)
            most = reach_by_search(form)
            self.assertEqual(strict(told), strict(tuple(
                end for end in ends if gap_of(form, point_of(end), (0,) * len(form)) == most)))
            self.assertGreaterEqual(len(told), 2)
            seen.add((len(form), len(told) == len(ends)))
        # Of some forms for n = 3 there are corners that are less far.
        self.assertEqual(seen, {(1, True), (2, True), (3, True), (3, False)})

    def test_deepest_of_known_forms(self):
        self.assertEqual(deepest(((5,),)), (((-1,), 2), ((1,), 2)))
        self.assertEqual(deepest(SQUARE), (((-1, -1), 2), ((-1, 1), 2), ((1, -1), 2), ((1, 1), 2)))
        # Of the fourteen corners the six in the midst of four walls are deepest.
        self.assertEqual(len(deepest(TWELVE)), 6)

    def test_no_spot_is_farther(self):
        chance = random.Random(82)
        for form in some_forms():
            for spot in some_spots(chance, form):
                here = gap_of(form, point_of(spot), nearest_by_search(form, spot)[0])
                self.assertLessEqual(here, Fraction(*reach(form)))


class CertificatesTest(unittest.TestCase):

    def test_judged(self):
        chance, seen = random.Random(83), set()
        for form in some_forms():
            for r in around(chance, reach_by_search(form)):
                told = judge_reach(form, r)
                self.assertTrue(is_right(form, r, told), (form, r, told))
                self.assertEqual(told[0] == "within", reach_by_search(form) <= Fraction(*r))
                self.assertIs(reach_holds(form, r, told), True)
                self.assertIs(reach_holds(form, r, ("within",)), told[0] == "within")
                seen.add((len(form), told[0]))
            answer(judge_reach, form=form, r=r)
            answer(reach_holds, form=form, r=r, thing=told)
        self.assertEqual(len(seen), 6)

    def test_just_at_the_reach(self):
        for r, word in [((1, 2), "within"), ((499999999, 10 ** 9), "spot"), ((500000001, 10 ** 9), "within"), ((0, 1), "spot"),
                        ((1, 10 ** 9), "spot"), ((10 ** 9, 1), "within")]:
            told = judge_reach(SQUARE, r)
            self.assertEqual(told[0], word)
            self.assertIs(reach_holds(SQUARE, r, told), True)
            self.assertIs(reach_holds(SQUARE, r, ("within",)), word == "within")
            self.assertIs(reach_holds(SQUARE, r, ("spot", ((1, -1), 2))), word == "spot")

    def test_each_far_spot_is_accepted_and_no_other(self):
        chance = random.Random(84)
        for form in some_forms()[::2]:
            for spot in some_spots(chance, form):
                here = gap_of(form, point_of(spot), nearest_by_search(form, spot)[0])
                for r in around(chance, here):
                    thing = ("spot", spot)
                    self.assertIs(reach_holds(form, r, thing), here > Fraction(*r))

    def test_spots_far_from_noughts_but_near_to_other_places(self):
        self.assertIs(reach_holds(SQUARE, (1, 4), ("spot", ((7, 0), 1))), False)
        self.assertIs(reach_holds(SQUARE, (1, 4), ("spot", ((15, 14), 2))), False)
        self.assertIs(reach_holds(SQUARE, (1, 4), ("spot", ((15, 13), 2))), True)
        self.assertIs(reach_holds(SQUARE, (0, 1), ("spot", ((10 ** 6, 1 - 10 ** 6), 1))), False)
        self.assertIs(reach_holds(SQUARE, (0, 1), ("spot", ((1, 0), 10 ** 6))), True)

    def test_any_values(self):
        for form, r in [(((3,),), (1, 2)), (((3,),), (3, 4)), (SQUARE, (1, 3)), (SQUARE, (1, 2)), (SIX, (0, 1)),
                        (CUBE, (3, 5)), (TWELVE, (1, 1)), (BODY, (6, 5))]:
            spot = deepest(form)[-1]
            things = variants(("within",)) + variants(("spot", spot)) + variants(judge_reach(form, r))
            for thing in ODD_VALUES + things + [("spot", ((10 ** 39,) * len(form), 10 ** 39 - 1))]:
                self.assertIs(answer(reach_holds, form=form, r=r, thing=thing), is_right(form, r, thing), thing)
        self.assertIs(reach_holds(SQUARE, (1, 3), ("spot", ((1, 1), 2))), True)
        for spot in [((True, 1), 2), ([1, 1], 2), ((2, 2), 4), ((-1, -1), -2), [(1, 1), 2], ((1, 1), 2, 1), ((1,), 2)]:
            self.assertIs(reach_holds(SQUARE, (1, 3), ("spot", spot)), False)


class ErrorsTest(unittest.TestCase):

    def test_bad_form(self):
        for thing in NO_FORMS + ODD_VALUES:
            for function in (reach, deepest):
                self.assertIs(error_of(BadForm, function, thing), thing)
                self.assertIs(error_of(BadForm, function, form=thing), thing)
            for r in (None, (1, 2), (2, 2)):
                self.assertIs(error_of(BadForm, judge_reach, thing, r), thing)
                self.assertIs(error_of(BadForm, judge_reach, r=r, form=thing), thing)
                self.assertIs(error_of(BadForm, reach_holds, thing, r, ("within",)), thing)

    def test_bad_fraction(self):
        wrong = [(2, 2), (0, 2), (0, 0), (1, 0), (1, -1), (-1, 1), (-1, 2), (1, True), (True, 1), (False, 1), [1, 2], (1,),
                 (1, 2, 3), ("1", 2), (1, None), (6, 4), 1, ((1,), 2), (10 ** 9, 10 ** 9), (0, -1), (-3, -2)]
        for form in [((3,),), SIX, TWELVE]:
            for thing in wrong + ODD_VALUES + variants((1, 2)):
                if is_plain_fraction(thing) and thing[0] >= 0:
                    continue
                self.assertIs(error_of(BadFraction, judge_reach, form, thing), thing)
                self.assertIs(error_of(BadFraction, judge_reach, r=thing, form=form), thing)
                for other in (None, ("within",)):
                    self.assertIs(error_of(BadFraction, reach_holds, form, thing, other), thing)

    def test_nought_is_let(self):
        for form in [((3,),), SIX, TWELVE]:
            self.assertEqual(judge_reach(form, (0, 1))[0], "spot")


class QuickTest(unittest.TestCase):

    def test_quick(self):
        chance = random.Random(85)
        forms = [slanted(chance, random_form(chance, n, 60), 60)[0] for n in (1, 2, 3) for _ in range(5)]
        for form in forms:
            spot = ((10 ** 6 - 1, 314159, -271828)[:len(form)], 10 ** 6)
            for call in [lambda: reach(form), lambda: deepest(form), lambda: judge_reach(form, (1, 10 ** 9)),
                         lambda: reach_holds(form, (1, 10 ** 9), ("spot", spot))]:
                before = time.perf_counter()
                call()
                self.assertLess(time.perf_counter() - before, 0.5)


if __name__ == "__main__":
    unittest.main()
