"""Promises 7.2 and 7.3: readings, and what may have been meant."""

import itertools
import random
import time
import unittest
from fractions import Fraction

from nearsteps.errors import BadForm, BadFraction, BadSpot
from nearsteps.readings import judge_reading, may_be_meant, read, reading_holds
from odd_values import (
    NO_FORMS, ODD_VALUES, answer, error_of, is_plain_spot, is_plain_step, strict, variants,
)
from searches import (
    SIX, TWELVE, all_within, corners_by_search, gap_of, least_by_search, nearest_by_search, places_within, point_of,
    random_form, slanted, spot_of, walls_by_search,
)
from wide_searches import (
    BALLS, BODY, CUBE, SQUARE, fraction_of, is_plain_fraction, is_spot_within, kinds_of_forms,
)

WRONG_FRACTIONS = [
    (2, 2), (0, 2), (0, 0), (1, 0), (1, -1), (-1, 1), (-1, 2), (1, True), (True, 1), (False, 1), [1, 2], (1,), (1, 2, 3),
    ("1", 2), (1, None), (6, 4), 1, ((1,), 2), (10 ** 9, 10 ** 9), (0, -1), (-3, -2),
]


def some_forms():
    return kinds_of_forms(random.Random(91), 60, 2) + [((1, 7), (7, 50)), ((60, 59), (59, 60))]


def some_spots(chance, form):
    """Return places, middles of walls, corners and others, moved, with bottoms up to the greatest."""
    n = len(form)
    ends = [point_of(corner) for corner in corners_by_search(form)]
    wall = chance.choice(walls_by_search(form))
    points = [(Fraction(0),) * n, chance.choice(ends), tuple(Fraction(number, 2) for number in wall)]
    points += [tuple(times * number for number in wall) for times in (Fraction(49999, 10 ** 5), Fraction(50001, 10 ** 5))]
    points += [tuple(a + chance.randint(-9, 9) for a in point) for point in points]
    points += [tuple(Fraction(chance.randint(-10 ** 6, 10 ** 6), bottom) for _ in range(n)) for bottom in (10 ** 6, 999983)]
    spots = [spot_of(point) for point in points] + [(tuple(chance.randint(-10 ** 6, 10 ** 6) for _ in range(n)), 1)]
    return [spot for spot in spots if is_spot_within(spot, n)]


def around(middle):
    """Return pairs of fractions just at, just above and just below, and farther off; all above 0."""
    parts = [middle, middle + Fraction(1, 10 ** 6), middle - Fraction(1, 10 ** 6), 3 * middle, middle / 3, 20 * middle]
    return [fraction_of(part) for part in parts] + [(1, 10 ** 9), (10 ** 9, 1), (10 ** 9 - 1, 10 ** 9)]


def is_right(form, e, thing):
    """Tell whether a certificate for a form and e is right, straight from the words of the document."""
    n = len(form)
    if strict(thing) == strict(("right",)):
        return 4 * Fraction(*e) <= least_by_search(form)
    if type(thing) is not tuple or len(thing) != 3 or thing[0] != "errs":
        return False
    if not is_plain_step(n, thing[1]) or not any(thing[1]) or not is_plain_spot(n, thing[2]):
        return False
    here = gap_of(form, point_of(thing[2]), (0,) * n)
    return here < Fraction(*e) and here >= gap_of(form, point_of(thing[2]), thing[1])


class ExamplesTest(unittest.TestCase):

    def test_readings(self):
        SQUARE = ((1, 0), (0, 1))
        self.assertEqual(strict([
            judge_reading(SQUARE, (1, 4)), judge_reading(SQUARE, (1, 3))[0],
            reading_holds(SQUARE, (1, 3), ('errs', (1, 0), ((1, 0), 2))), read(SQUARE, ((2, 1), 3)),
            read(SQUARE, ((1, 0), 2)), may_be_meant(SQUARE, ((1, 1), 2), (1, 2)),
        ]), strict([('right',), 'errs', True, (1, 0), None, ((0, 0), (0, 1), (1, 0), (1, 1))]))


class ReadingsTest(unittest.TestCase):

    def test_judged(self):
        seen = set()
        for form in some_forms():
            least = least_by_search(form)
            for e in around(Fraction(least, 4)):
                told = judge_reading(form, e)
                self.assertTrue(is_right(form, e, told), (form, e, told))
                self.assertEqual(told[0] == "right", 4 * Fraction(*e) <= least)
                self.assertIs(reading_holds(form, e, told), True)
                self.assertIs(reading_holds(form, e, ("right",)), told[0] == "right")
                seen.add((len(form), told[0]))
                if told[0] == "errs":
                    # The reading is of noughts, and not right.
                    self.assertNotEqual(nearest_by_search(form, told[2]), [(0,) * len(form)])
                    self.assertNotEqual(read(form, told[2]), (0,) * len(form))
            answer(judge_reading, form=form, e=e)
            answer(reading_holds, form=form, e=e, thing=told)
        self.assertEqual(len(seen), 6)

    def test_a_quarter_of_the_least_size(self):
        for form, e in [(SQUARE, (1, 4)), (((60,),), (15, 1)), (SIX, (1, 2)), (BODY, (3, 4)), (((1, 7), (7, 50)), (1, 4)),
                        (((7, 3), (3, 9)), (7, 4))]:
            self.assertEqual(strict(judge_reading(form, e)), strict(("right",)))
            above = fraction_of(Fraction(*e) + Fraction(1, 10 ** 8))
            below = fraction_of(Fraction(*e) - Fraction(1, 10 ** 8))
            self.assertEqual([judge_reading(form, above)[0], judge_reading(form, below)[0]], ["errs", "right"])

    def test_right_readings(self):
        # Whatever place is meant, with a lesser error it is the one that is read.
        chance = random.Random(92)
        for form in some_forms():
            n, least = len(form), least_by_search(form)
            for _ in range(10):
                point = tuple(Fraction(chance.randint(-50, 50), 97) for _ in range(n))
                meant = tuple(chance.randint(-100, 100) for _ in range(n))
                if 4 * gap_of(form, point, (0,) * n) < least:
                    self.assertEqual(read(form, spot_of(tuple(a + b for a, b in zip(point, meant)))), meant)

    def test_each_error_is_accepted_and_no_other(self):
        for form, e in [(((3,),), (3, 4)), (((3,),), (7, 8)), (SQUARE, (1, 4)), (SQUARE, (1, 3)), (SQUARE, (1, 2)),
                        (SIX, (1, 1)), (((1, 3), (3, 10)), (2, 3)), (CUBE, (1, 2)), (TWELVE, (3, 5))]:
            n = len(form)
            steps = list(itertools.product(range(-2, 3), repeat=n))[::1 if n < 3 else 4]
            for tops in list(itertools.product(range(-3, 4), repeat=n))[::1 if n < 3 else 5]:
                for bottom in (1, 2, 3) if n < 3 else (2, 3):
                    for step in steps:
                        thing = ("errs", step, (tops, bottom))
                        self.assertIs(reading_holds(form, e, thing), is_right(form, e, thing), thing)

    def test_ends_of_errors(self):
        # Half way the gaps are equal; the error itself is below e, so that a gap of e is not let.
        half = ((1, 0), 2)
        for step, spot, right in [((1, 0), half, True), ((-1, 0), half, False), ((0, 0), half, False), ((0, 1), half, False),
                                  ((1, 0), ((500001, 0), 10 ** 6), True), ((1, 0), ((499999, 0), 10 ** 6), False),
                                  ((1, 0), ((1, 0), 1), False), ((0, 0), ((0, 0), 1), False)]:
            self.assertIs(reading_holds(SQUARE, (1, 3), ("errs", step, spot)), right)
        self.assertIs(reading_holds(SQUARE, (1, 4), ("errs", (1, 0), half)), False)
        self.assertIs(reading_holds(SQUARE, (250000001, 10 ** 9), ("errs", (1, 0), half)), True)
        self.assertIs(reading_holds(SQUARE, (2, 1), ("errs", (2, 0), ((1, 0), 1))), True)
        self.assertIs(reading_holds(SQUARE, (1, 1), ("errs", (2, 0), ((1, 0), 1))), False)

    def test_any_values(self):
        for form, e in [(((3,),), (3, 4)), (((3,),), (4, 5)), (SQUARE, (1, 3)), (SQUARE, (1, 4)), (SIX, (3, 1)),
                        (CUBE, (3, 10)), (TWELVE, (1, 2))]:
            n = len(form)
            unit = (1,) + (0,) * (n - 1)
            things = variants(("right",)) + variants(("errs", unit, (unit, 2))) + variants(judge_reading(form, e))
            for thing in ODD_VALUES + things + [("errs", (10 ** 39,) * n, ((10 ** 39,) * n, 10 ** 39 - 1))]:
                self.assertIs(answer(reading_holds, form=form, e=e, thing=thing), is_right(form, e, thing), thing)
        for step, spot in [((True, 0), ((1, 0), 2)), ((1, 0), ((True, False), 2)), ((1, 0), ((2, 0), 4)), ([1, 0], ((1, 0), 2)),
                           ((1, 0), [(1, 0), 2]), ((1, 0, 0), ((1, 0), 2)), ((1, 0), ((-1, 0), -2))]:
            self.assertIs(reading_holds(SQUARE, (1, 3), ("errs", step, spot)), False)


class ReadTest(unittest.TestCase):

    def test_read(self):
        chance, seen = random.Random(93), set()
        for form in some_forms():
            for spot in some_spots(chance, form):
                nearest = nearest_by_search(form, spot)
                told = answer(read, form=form, spot=spot)
                self.assertEqual(strict(told), strict(nearest[0] if len(nearest) == 1 else None))
                seen.add((len(form), len(nearest) == 1))
        self.assertEqual(len(seen), 6)

    def test_known(self):
        self.assertEqual([read(((5,),), ((top,), 4)) for top in (-3, -1, 1, 3, 5, 7)], [(-1,), (0,), (0,), (1,), (1,), (2,)])
        self.assertIsNone(read(((5,),), ((-7,), 2)))
        self.assertIsNone(read(CUBE, ((1, 1, 1), 2)))
        self.assertEqual(read(CUBE, ((499999, -499999, 500001), 10 ** 6)), (0, 0, 1))
        self.assertIsNone(read(CUBE, ((499999, -499999, 500000), 10 ** 6)))
        self.assertEqual(read(((1, 7), (7, 50)), ((0, 49), 100)), (3, 0))
        for form in some_forms():
            self.assertEqual(read(form, ((10 ** 6,) * len(form), 1)), (10 ** 6,) * len(form))


class MeantTest(unittest.TestCase):

    def test_places(self):
        chance, most = random.Random(94), 0
        for form in some_forms():
            for spot in some_spots(chance, form)[::3]:
                point = point_of(spot)
                nearest = gap_of(form, point, nearest_by_search(form, spot)[0])
                parts = [nearest, nearest - Fraction(1, 10 ** 9), nearest + Fraction(1, 10 ** 9), Fraction(0), 2 * nearest,
                         nearest + least_by_search(form), Fraction(chance.randint(1, 400), chance.randint(1, 9))]
                for e in [fraction_of(part) for part in parts if part >= 0 and part.denominator <= 10 ** 9]:
                    told = tuple(places_within(form, point, Fraction(*e)))
                    if len(told) <= 400:
                        self.assertEqual(strict(may_be_meant(form, spot, e)), strict(told), (form, spot, e))
                        most = max(most, len(told))
            answer(may_be_meant, form=form, spot=spot, e=(3, 2))
        self.assertGreater(most, 100)

    def test_at_just_the_fraction(self):
        self.assertEqual(may_be_meant(SQUARE, ((0, 0), 1), (1, 1)), ((-1, 0), (0, -1), (0, 0), (0, 1), (1, 0)))
        self.assertEqual(may_be_meant(SQUARE, ((0, 0), 1), (10 ** 9 - 1, 10 ** 9)), ((0, 0),))
        self.assertEqual(may_be_meant(SQUARE, ((1, 1), 2), (499999999, 10 ** 9)), ())
        self.assertEqual(may_be_meant(SIX, ((2, 1), 3), (2, 3)), ((0, 0), (1, 0), (1, 1)))
        self.assertEqual(may_be_meant(SIX, ((2, 1), 3), (666666665, 10 ** 9 - 1)), ())
        self.assertEqual(may_be_meant(((5,),), ((-7,), 2), (5, 4)), ((-4,), (-3,)))
        self.assertEqual(len(may_be_meant(BALLS, ((0, 0, 0), 1), (2, 1))), 13)

    def test_nought(self):
        for form in some_forms():
            n = len(form)
            self.assertEqual(may_be_meant(form, ((7,) * n, 1), (0, 1)), ((7,) * n,))
            self.assertEqual(may_be_meant(form, ((1,) * n, 2), (0, 1)), ())

    def test_many(self):
        self.assertEqual(may_be_meant(((1,),), ((0,), 1), (39601, 1)), tuple((number,) for number in range(-199, 200)))
        self.assertEqual(len(may_be_meant(((1,),), ((1,), 2), (159201, 4))), 400)
        for form, most in [(SQUARE, 125), (((1, 7), (7, 50)), 125), (CUBE, 20), (((60, 59), (59, 60)), 1000), (BALLS, 28)]:
            spot = ((0,) * len(form), 1)
            told = may_be_meant(form, spot, (most, 1))
            self.assertEqual(strict(told), strict(tuple(all_within(form, most))))
            self.assertGreater(len(told), 200)

    def test_far_spots_with_great_bottoms(self):
        for form in [((1,),), SIX, ((1, 7), (7, 50)), TWELVE, BODY]:
            spot = ((10 ** 6 - 1, -999979, 314159)[:len(form)], 999983)
            for e in [(5, 1), (987654321, 10 ** 9), (10 ** 9, 999999937)]:
                told = places_within(form, point_of(spot), Fraction(*e))
                self.assertEqual(strict(may_be_meant(form, spot, e)), strict(tuple(told)))


class ErrorsTest(unittest.TestCase):

    def test_bad_form(self):
        for thing in NO_FORMS + ODD_VALUES:
            for spot, e in [(None, None), (((1,), 2), (1, 2)), (((2,), 2), (0, 1))]:
                self.assertIs(error_of(BadForm, judge_reading, thing, e), thing)
                self.assertIs(error_of(BadForm, judge_reading, e=e, form=thing), thing)
                self.assertIs(error_of(BadForm, reading_holds, thing, e, ("right",)), thing)
                self.assertIs(error_of(BadForm, read, thing, spot), thing)
                self.assertIs(error_of(BadForm, may_be_meant, thing, spot, e), thing)
                self.assertIs(error_of(BadForm, may_be_meant, e=e, spot=spot, form=thing), thing)

    def test_bad_spot(self):
        for form in [((3,),), SIX, TWELVE]:
            n = len(form)
            for thing in ODD_VALUES + variants(((3, 0, 1)[:n], 2)) + [((2,) * n, 2), ((1,) * n, 0), ((1,) * n, -1)]:
                if is_plain_spot(n, thing):
                    continue
                self.assertIs(error_of(BadSpot, read, form, thing), thing)
                self.assertIs(error_of(BadSpot, read, spot=thing, form=form), thing)
                for e in (None, (1, 2), (-1, 2)):
                    self.assertIs(error_of(BadSpot, may_be_meant, form, thing, e), thing)

    def test_bad_fraction(self):
        for form in [((3,),), SIX, TWELVE]:
            spot = ((1,) * len(form), 2)
            for thing in WRONG_FRACTIONS + ODD_VALUES + variants((1, 2)):
                if is_plain_fraction(thing) and thing[0] >= 0:
                    continue
                self.assertIs(error_of(BadFraction, judge_reading, form, thing), thing)
                self.assertIs(error_of(BadFraction, judge_reading, e=thing, form=form), thing)
                self.assertIs(error_of(BadFraction, reading_holds, form, thing, ("right",)), thing)
                self.assertIs(error_of(BadFraction, reading_holds, form, thing, None), thing)
                self.assertIs(error_of(BadFraction, may_be_meant, form, spot, thing), thing)
                self.assertIs(error_of(BadFraction, may_be_meant, e=thing, spot=spot, form=form), thing)

    def test_nought_is_let_only_for_what_may_be_meant(self):
        nought = (0, 1)
        self.assertIs(error_of(BadFraction, judge_reading, SQUARE, nought), nought)
        self.assertIs(error_of(BadFraction, reading_holds, SQUARE, nought, ("right",)), nought)
        self.assertEqual(may_be_meant(SQUARE, ((1, 0), 1), nought), ((1, 0),))


class QuickTest(unittest.TestCase):

    def test_quick(self):
        chance = random.Random(95)
        forms = [slanted(chance, random_form(chance, n, 60), 60)[0] for n in (1, 2, 3) for _ in range(5)] + [BALLS]
        for form in forms:
            spot = ((10 ** 6 - 1, 314159, -271828)[:len(form)], 10 ** 6)
            far = Fraction(1)
            while len(places_within(form, point_of(spot), 2 * far)) <= 400:
                far *= 2
            for call in [lambda: judge_reading(form, (1, 10 ** 9)), lambda: read(form, spot),
                         lambda: may_be_meant(form, spot, fraction_of(far))]:
                before = time.perf_counter()
                call()
                self.assertLess(time.perf_counter() - before, 0.5)


if __name__ == "__main__":
    unittest.main()
