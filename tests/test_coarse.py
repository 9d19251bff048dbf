"""Promises 9.1 and 9.2: coarse places, and two stages."""

import itertools
import random
import time
import unittest
from fractions import Fraction

from nearsteps.coarse import coarse_form, index, is_coarse, judge_stages, nearest_coarse, stages_hold
from nearsteps.errors import BadCoarse, BadForm, BadSpot
from odd_values import (
    NO_FORMS, ODD_VALUES, answer, error_of, is_plain_spot, is_plain_step, plain_changed, plain_determinant, strict,
    variants,
)
from searches import (
    SIX, TWELVE, corners_by_search, nearest_by_search, point_of, random_form, slanted, spot_of,
)
from wide_searches import (
    BALLS, BODY, CUBE, NO_TABLES, SQUARE, TABLES, combined, is_spot_within, kinds_of_forms, lot_key, moved,
    nearest_coarse_by_search, random_coarse, stages_are_right, units,
)

LINE = ((1,),)


def some_pairs(chance, each):
    """Return pairs of a form and a coarse table, easy, random and slanted ones."""
    forms = kinds_of_forms(chance, 20, 3) + [((1, 4), (4, 17)), ((20, 19), (19, 20))]
    found = []
    for form in forms:
        n = len(form)
        tables = chance.sample(TABLES[n], min(each, len(TABLES[n]))) + [random_coarse(chance, n, 6, 30)]
        found += [(form, coarse) for coarse in tables]
    return found


def some_spots(chance, form, coarse):
    """Return places, coarse places, corners moved, halves of coarse places and others."""
    n = len(form)
    corner = point_of(chance.choice(corners_by_search(form)))
    place = tuple(chance.randint(-9, 9) for _ in range(n))
    end = combined(coarse, place)
    points = [place, end, [Fraction(number, 2) for number in end], [a + b for a, b in zip(corner, place)]]
    points += [[Fraction(number, 2) for number in combined(coarse, units(n)[0])]]
    points += [[Fraction(chance.randint(-10 ** 6, 10 ** 6), 999983) for _ in range(n)]]
    spots = [spot_of(tuple(map(Fraction, point))) for point in points]
    return [spot for spot in spots if is_spot_within(spot, n)]


def is_right(form, coarse, thing):
    """Tell whether a certificate for a form and a coarse table is right, straight from the words of the document."""
    n = len(form)
    if strict(thing) == strict(("right",)):
        return stages_are_right(form, coarse)
    if type(thing) is not tuple or len(thing) != 4 or thing[0] != "spot" or not is_plain_spot(n, thing[1]):
        return False
    if not is_plain_step(n, thing[2]) or not is_plain_step(n, thing[3]):
        return False
    return (thing[2] in nearest_by_search(form, thing[1])
            and thing[3] in nearest_coarse_by_search(form, coarse, (thing[2], 1))
            and thing[3] not in nearest_coarse_by_search(form, coarse, thing[1]))


class ExamplesTest(unittest.TestCase):

    def test_coarse(self):
        SQUARE = ((1, 0), (0, 1))
        self.assertEqual(strict([
            is_coarse(2, ((1, 1), (1, 1))), index(2, ((1, 1), (1, -1))), coarse_form(SQUARE, ((1, 1), (1, -1))),
            nearest_coarse(SQUARE, ((2, 0), (0, 2)), ((1, 0), 1)),
        ]), strict([False, 2, ((2, 0), (0, 2)), ((0, 0), (2, 0))]))

    def test_stages(self):
        LINE, SQUARE = ((1,),), ((1, 0), (0, 1))
        self.assertEqual(strict([
            judge_stages(LINE, ((3,),)), judge_stages(LINE, ((2,),))[0],
            stages_hold(LINE, ((2,),), ('spot', ((3,), 2), (1,), (0,))), judge_stages(SQUARE, ((3, 0), (0, -3))),
        ]), strict([('right',), 'spot', True, ('right',)]))


class TablesTest(unittest.TestCase):

    def test_coarse_tables(self):
        for n in (1, 2, 3):
            for coarse in TABLES[n]:
                self.assertIs(answer(is_coarse, n=n, thing=coarse), True)
                self.assertEqual(strict(answer(index, n=n, coarse=coarse)), strict(abs(plain_determinant(coarse))))
                self.assertEqual([is_coarse(m, coarse) for m in (1, 2, 3) if m != n], [False, False])
            for thing in NO_TABLES[n]:
                self.assertIs(answer(is_coarse, n=n, thing=thing), False)

    def test_small_tables(self):
        for a, b, c, d in itertools.product(range(-2, 3), repeat=4):
            self.assertIs(is_coarse(2, ((a, b), (c, d))), a * d != b * c)
            if a * d != b * c:
                self.assertEqual(index(2, ((a, b), (c, d))), abs(a * d - b * c))

    def test_any_values(self):
        for n in (1, 2, 3):
            rows = ((3, 1, 0)[:n], (1, -2, 1)[:n], (0, 0, 2)[:n])[:n]
            for thing in ODD_VALUES + variants(rows):
                told = (type(thing) is tuple and len(thing) == n and all(is_plain_step(n, row) for row in thing)
                        and plain_determinant(thing) != 0)
                self.assertIs(is_coarse(n, thing), told, thing)
        self.assertIs(is_coarse(2, ((10 ** 39, 1), (10 ** 39 - 1, 1))), True)

    def test_index_is_how_many_lots_there_are(self):
        for n in (1, 2, 3):
            for coarse in [coarse for coarse in TABLES[n] if index(n, coarse) <= (30, 30, 8)[n - 1]]:
                lots = {lot_key(coarse, place) for place in itertools.product(range(index(n, coarse)), repeat=n)}
                self.assertEqual(len(lots), index(n, coarse))

    def test_coarse_form(self):
        for form, coarse in some_pairs(random.Random(121), 3):
            told = answer(coarse_form, form=form, coarse=coarse)
            self.assertEqual(strict(told), strict(plain_changed(form, coarse)))
            self.assertEqual(plain_determinant(told), plain_determinant(form) * index(len(form), coarse) ** 2)


class NearestTest(unittest.TestCase):

    def test_nearest_coarse(self):
        chance = random.Random(122)
        for form, coarse in some_pairs(chance, 2)[::2]:
            for spot in some_spots(chance, form, coarse):
                told = answer(nearest_coarse, form=form, coarse=coarse, spot=spot)
                self.assertEqual(strict(told), strict(tuple(nearest_coarse_by_search(form, coarse, spot))),
                                 (form, coarse, spot))

    def test_known(self):
        self.assertEqual(nearest_coarse(LINE, ((6,),), ((3,), 1)), ((0,), (6,)))
        self.assertEqual(nearest_coarse(LINE, ((-6,),), ((-3,), 1)), ((-6,), (0,)))
        self.assertEqual(nearest_coarse(LINE, ((6,),), ((2999999,), 10 ** 6)), ((0,),))
        self.assertEqual(nearest_coarse(SQUARE, ((1, 1), (1, -1)), ((1, 0), 1)), ((0, 0), (1, -1), (1, 1), (2, 0)))
        self.assertEqual(nearest_coarse(SQUARE, ((1, 1), (1, -1)), ((10 ** 6, 0), 1)), ((10 ** 6, 0),))
        self.assertEqual(len(nearest_coarse(CUBE, ((2, 0, 0), (0, 2, 0), (0, 0, 2)), ((1, 1, 1), 1))), 8)

    def test_other_rows_of_the_same_coarse_places(self):
        chance = random.Random(123)
        for form, coarse in some_pairs(chance, 1)[::4]:
            n = len(form)
            others = [tuple(tuple(-number for number in row) for row in coarse), coarse[::-1]]
            if n > 1:
                others.append((tuple(a + b for a, b in zip(coarse[0], coarse[1])),) + coarse[1:])
            for spot in some_spots(chance, form, coarse):
                for other in others:
                    self.assertEqual(nearest_coarse(form, other, spot), nearest_coarse(form, coarse, spot))
            for other in others:
                self.assertEqual(judge_stages(form, other)[0], judge_stages(form, coarse)[0])
                told = judge_stages(form, other)
                self.assertIs(stages_hold(form, coarse, told), True)

    def test_all_places_are_coarse(self):
        chance = random.Random(124)
        for form in kinds_of_forms(chance, 20, 2):
            for coarse in [table for table in TABLES[len(form)] if abs(plain_determinant(table)) == 1]:
                for spot in some_spots(chance, form, coarse):
                    self.assertEqual(list(nearest_coarse(form, coarse, spot)), nearest_by_search(form, spot))
                self.assertEqual(strict(judge_stages(form, coarse)), strict(("right",)))


class StagesTest(unittest.TestCase):

    def test_judged(self):
        chance, seen = random.Random(125), set()
        pairs = [(LINE, ((3,),)), (SQUARE, ((3, 0), (0, -3))), (CUBE, ((0, 3, 0), (3, 0, 0), (0, 0, 1)))]
        for form, coarse in pairs + some_pairs(chance, 1):
            if len(form) == 3 and index(3, coarse) > 10 and chance.random() < 0.8:
                continue
            told = judge_stages(form, coarse)
            self.assertTrue(is_right(form, coarse, told), (form, coarse, told))
            self.assertEqual(told[0] == "right", stages_are_right(form, coarse))
            self.assertIs(stages_hold(form, coarse, told), True)
            self.assertIs(stages_hold(form, coarse, ("right",)), told[0] == "right")
            answer(judge_stages, form=form, coarse=coarse)
            answer(stages_hold, form=form, coarse=coarse, thing=told)
            seen.add((len(form), told[0], index(len(form), coarse) > 1))
        self.assertEqual({(n, word) for n, word, many in seen if many}, set(itertools.product((1, 2, 3), ("right", "spot"))))

    def test_multiples_of_all_steps(self):
        # Odd multiples along plain steps are right, even ones aren't: a place half way is as near to two.
        for form in [LINE, ((20,),), SQUARE, ((1, 0), (0, 7)), CUBE, ((1, 0, 0), (0, 2, 0), (0, 0, 20))]:
            n = len(form)
            for times in range(1, 7):
                for sign in (1, -1):
                    coarse = tuple(tuple(sign * times * number for number in row) for row in units(n))
                    if times ** n <= (27 if sign > 0 else 8):
                        told = judge_stages(form, coarse)
                        self.assertEqual(told[0], "right" if times & 1 else "spot")
                        self.assertTrue(is_right(form, coarse, told))

    def test_multiples_of_slanted_steps(self):
        # Where cells have six sides, multiples above 1 are never right.
        for form in [SIX, ((5, 2), (2, 6)), BALLS, BODY, TWELVE]:
            n = len(form)
            for times in range(2, 6 if n == 2 else 4):
                coarse = tuple(tuple(times * number for number in row) for row in units(n))
                told = judge_stages(form, coarse)
                self.assertTrue(is_right(form, coarse, told))
                self.assertEqual(told[0] == "right", stages_are_right(form, coarse))
        self.assertEqual(judge_stages(SIX, ((2, 0), (0, 2)))[0], "spot")

    def test_each_wrong_spot_is_accepted_and_no_other(self):
        for form, coarse in [(LINE, ((2,),)), (LINE, ((3,),)), (LINE, ((4,),)), (SQUARE, ((1, 1), (1, -1))),
                             (SQUARE, ((3, 0), (0, 3))), (SIX, ((2, 0), (0, 2))), (SIX, ((2, 1), (1, 2)))]:
            n = len(form)
            ends = list(itertools.product(range(-3, 4), repeat=n))
            for tops in list(itertools.product(range(-4, 5), repeat=n))[::1 if n == 1 else 4]:
                for spot in [(tops, 2), (tops, 3)]:
                    if not is_plain_spot(n, spot):
                        continue
                    near = [place for place in ends if place in nearest_by_search(form, spot)] + [(0,) * n, (1,) * n]
                    for place in near:
                        for end in ends[::1 if n == 1 else 2]:
                            thing = ("spot", spot, place, end)
                            self.assertIs(stages_hold(form, coarse, thing), is_right(form, coarse, thing), thing)

    def test_each_part_of_a_certificate_counts(self):
        even = ((2,),)
        for spot, place, end, right in [
                (((3,), 2), (1,), (0,), True), (((3,), 2), (2,), (2,), False), (((3,), 2), (1,), (2,), False),
                (((3,), 2), (1,), (1,), False), (((5,), 4), (1,), (0,), True), (((1,), 1), (1,), (0,), False),
                (((7,), 4), (1,), (0,), False), (((5,), 4), (1,), (4,), False), (((-3,), 2), (-1,), (0,), True)]:
            self.assertIs(stages_hold(LINE, even, ("spot", spot, place, end)), right)
            moved_by = (6,)
            far = (moved([spot[0]], (6 * spot[1],))[0], spot[1])
            thing = ("spot", far, moved([place], moved_by)[0], moved([end], moved_by)[0])
            self.assertIs(stages_hold(LINE, even, thing), right)

    def test_any_values(self):
        for form, coarse in [(LINE, ((2,),)), (LINE, ((3,),)), (SQUARE, ((1, 1), (1, -1))), (SQUARE, ((3, 0), (0, 3))),
                             (SIX, ((2, 0), (0, 2))), (CUBE, ((2, 0, 0), (0, 1, 0), (0, 0, 1)))]:
            n = len(form)
            things = variants(("right",)) + variants(judge_stages(form, coarse))[::1 if n < 3 else 2]
            things += [("spot", ((10 ** 39,) * n, 10 ** 39 - 1), (1,) * n, (0,) * n)]
            for thing in ODD_VALUES + things:
                self.assertIs(stages_hold(form, coarse, thing), is_right(form, coarse, thing), thing)
        for parts, right in [((((3,), 2), (1,), (0,)), True), ((((3,), 2), (True,), (0,)), False),
                             ((((3,), 2), (1,), (False,)), False), ((((3,), 2), [1], (0,)), False),
                             ((((6,), 4), (1,), (0,)), False), ((((3,), 2), (1,)), False), (([(3,), 2], (1,), (0,)), False)]:
            self.assertIs(answer(stages_hold, form=LINE, coarse=((2,),), thing=("spot",) + parts), right)


class ErrorsTest(unittest.TestCase):

    def test_bad_form(self):
        for thing in NO_FORMS + ODD_VALUES:
            for coarse, spot in [(None, None), (((1,),), ((1,), 2)), (((0,),), ((2,), 2))]:
                for function in (coarse_form, judge_stages):
                    self.assertIs(error_of(BadForm, function, thing, coarse), thing)
                    self.assertIs(error_of(BadForm, function, coarse=coarse, form=thing), thing)
                self.assertIs(error_of(BadForm, nearest_coarse, thing, coarse, spot), thing)
                self.assertIs(error_of(BadForm, stages_hold, thing, coarse, ("right",)), thing)

    def test_bad_coarse(self):
        for form in [((3,),), SIX, TWELVE]:
            n = len(form)
            for thing in NO_TABLES[n] + [thing for thing in ODD_VALUES if not is_coarse(n, thing)]:
                self.assertIs(error_of(BadCoarse, index, n, thing), thing)
                self.assertIs(error_of(BadCoarse, index, coarse=thing, n=n), thing)
                for function in (coarse_form, judge_stages):
                    self.assertIs(error_of(BadCoarse, function, form, thing), thing)
                    self.assertIs(error_of(BadCoarse, function, coarse=thing, form=form), thing)
                for spot in (None, ((1,) * n, 2)):
                    self.assertIs(error_of(BadCoarse, nearest_coarse, form, thing, spot), thing)
                self.assertIs(error_of(BadCoarse, stages_hold, form, thing, ("right",)), thing)

    def test_bad_spot(self):
        for form in [((3,),), SIX, TWELVE]:
            n = len(form)
            for thing in ODD_VALUES + variants(((3, 0, 1)[:n], 2)) + [((2,) * n, 2), ((1,) * n, 0), ((1,) * n, -1)]:
                if not is_plain_spot(n, thing):
                    self.assertIs(error_of(BadSpot, nearest_coarse, form, TABLES[n][2], thing), thing)
                    self.assertIs(error_of(BadSpot, nearest_coarse, spot=thing, coarse=TABLES[n][2], form=form), thing)


class QuickTest(unittest.TestCase):

    def test_quick(self):
        chance = random.Random(126)
        tables = TABLES[1] + TABLES[2] + TABLES[3]
        tables += [random_coarse(chance, n, 6, 30) for n in (2, 3) for _ in range(10)]
        for coarse in tables:
            n = len(coarse)
            forms = [slanted(chance, random_form(chance, n, 20), 20)[0], (units(1), ((1, 4), (4, 17)), CUBE)[n - 1]]
            for form in forms:
                spot = ((10 ** 6 - 1, 314159, -271828)[:n], 10 ** 6)
                told = judge_stages(form, coarse)
                for call in [lambda: nearest_coarse(form, coarse, spot), lambda: judge_stages(form, coarse),
                             lambda: stages_hold(form, coarse, told)]:
                    before = time.perf_counter()
                    call()
                    self.assertLess(time.perf_counter() - before, 0.5)


if __name__ == "__main__":
    unittest.main()
