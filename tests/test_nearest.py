"""Promises 4.1 to 4.3: spots, nearest places, walks and plain rounding."""

import itertools
import random
import time
import unittest
from fractions import Fraction

from nearsteps.errors import BadForm, BadSpot, BadStep
from nearsteps.nearest import (
    gap, is_spot, judge_nearest, judge_plain, nearest_holds, nearest_places, plain_holds, plain_place, walk,
)
from odd_values import (
    NO_FORMS, ODD_VALUES, answer, error_of, is_plain_spot, is_plain_step, strict, variants,
)
from searches import (
    KINDS, LINES, SIX, TWELVE, corners_by_search, gap_of, nearest_by_search, point_of, random_form, slanted, spot_of,
    walls_by_search,
)

SQUARE = ((1, 0), (0, 1))
CUBE = ((1, 0, 0), (0, 1, 0), (0, 0, 1))
SLANT = ((2, 1), (1, 2))
FORMS = {1: ((3,),), 2: SLANT, 3: TWELVE}
# Bottoms that are much divided, primes, and the greatest one.
BOTTOMS = [1, 2, 3, 7, 12, 720720, 999983, 10 ** 6]


def some_forms():
    """Return easy forms, random ones and forms slanted as far as the integers let."""
    chance = random.Random(51)
    easy = list(KINDS) + list(LINES) + [random_form(chance, n, 200) for n in (1, 2, 3) for _ in range(6)]
    easy += [((1, 14), (14, 197)), ((196, 195), (195, 195)), ((1, 0), (0, 2))]
    return easy + [slanted(chance, form, 200)[0] for form in easy if len(form) > 1]


def random_spot(chance, n, most):
    """Return a spot whose bottom is one of those above and whose fractions are at most so much in size."""
    bottom = chance.choice(BOTTOMS)
    return spot_of(tuple(Fraction(chance.randint(-most * bottom, most * bottom), bottom) for _ in range(n)))


def within(spot):
    """Tell whether a spot is within the limits of part 4."""
    return all(abs(number) <= 10 ** 6 for number in spot[0] + (spot[1],))


def some_spots(chance, form):
    """Return places, halves, corners, spots on faces, and spots a little within and beyond a corner, moved."""
    n = len(form)
    points = [point_of(((1,) * n, 2)), point_of(((1,) + (0,) * (n - 1), 2)), (Fraction(0),) * n]
    corners = list(map(point_of, corners_by_search(form)))
    one, other = chance.choice(corners), chance.choice(corners)
    points += [one, tuple((a + b) / 2 for a, b in zip(one, other)), tuple((a + 2 * b) / 3 for a, b in zip(one, other))]
    points += [tuple(times * a for a in one) for times in (Fraction(999, 1000), Fraction(1001, 1000))]
    wall = chance.choice(walls_by_search(form))
    points += [tuple(times * number for number in wall)
               for times in (Fraction(1, 2), Fraction(49999, 100000), Fraction(50001, 100000))]
    moved = tuple(chance.randint(-3, 3) for _ in range(n))
    points += [tuple(a + b for a, b in zip(point, moved)) for point in points]
    spots = [spot_of(point) for point in points] + [random_spot(chance, n, most) for most in (1, 1, 3)]
    spots += [(tuple(chance.randint(-10 ** 6, 10 ** 6) for _ in range(n)), 1)]
    return [spot for spot in spots if within(spot)]


def is_right(form, spot, place, thing):
    """Tell whether a certificate for a spot and a place is right, straight from the words of the document."""
    if strict(thing) == strict(("nearest",)):
        return place in nearest_by_search(form, spot)
    if type(thing) is not tuple or len(thing) != 2 or thing[0] != "better" or not is_plain_step(len(form), thing[1]):
        return False
    there = tuple(a + b for a, b in zip(place, thing[1]))
    point = point_of(spot)
    return thing[1] in walls_by_search(form) and gap_of(form, point, there) < gap_of(form, point, place)


def plain_by_hand(spot):
    """Return the plain place, by a look at the two integers around each fraction."""
    out = []
    for part in point_of(spot):
        low = part.numerator // part.denominator
        out.append(low if part - low < Fraction(1, 2) else low + 1)
    return tuple(out)


def is_right_for_plain(form, thing):
    """Tell whether a certificate for a form is right, straight from the words of the document."""
    n = len(form)
    if strict(thing) == strict(("right",)):
        return all(form[i][j] == 0 for i in range(n) for j in range(n) if i != j)
    if type(thing) is not tuple or len(thing) != 2 or thing[0] != "spot" or not is_plain_spot(n, thing[1]):
        return False
    return plain_by_hand(thing[1]) not in nearest_by_search(form, thing[1])


class ExamplesTest(unittest.TestCase):

    def test_nearest(self):
        slant, half = ((2, 1), (1, 2)), ((1, 1), 2)
        self.assertEqual(strict([
            gap(slant, half, (0, 0)), gap(slant, half, (1, 0)), plain_place(2, half), nearest_places(slant, half),
            judge_nearest(slant, half, (1, 0)), nearest_holds(slant, half, (1, 1), ('better', (-1, 0))),
            len(walk(slant, half, (0, 0))),
        ]), strict([(3, 2), (1, 2), (1, 1), ((0, 1), (1, 0)), ('nearest',), True, 1]))

    def test_plain(self):
        slant, half = ((2, 1), (1, 2)), ((1, 1), 2)
        self.assertEqual(strict([
            is_spot(2, ((2, 4), 2)), plain_holds(slant, ('spot', half)), judge_plain(((3, 0), (0, 7))),
            plain_place(1, ((-1,), 2)),
        ]), strict([False, True, ('right',), (0,)]))


class SpotsTest(unittest.TestCase):

    def test_spots(self):
        for n in (1, 2, 3):
            for tops in itertools.product(range(-6, 7, {1: 1, 2: 1, 3: 3}[n]), repeat=n):
                for bottom in range(-2, 13):
                    self.assertIs(is_spot(n, (tops, bottom)), is_plain_spot(n, (tops, bottom)))
        for n, spot in [(1, ((0,), 1)), (1, ((10 ** 39,), 10 ** 39 - 1)), (2, ((2, 4), 3)), (2, ((2, 3), 6)),
                        (3, ((6, 10, 15), 30)), (3, ((0, 0, 0), 1)), (3, ((0, 0, 1), 10 ** 6))]:
            self.assertIs(answer(is_spot, n=n, thing=spot), True)
            self.assertEqual([is_spot(m, spot) for m in (1, 2, 3) if m != n], [False, False])

    def test_no_spots(self):
        for n, thing in [(1, ((0,), 2)), (1, ((0,), 0)), (1, ((1,), 0)), (1, ((1,), -1)), (1, ((1,), True)),
                         (1, ((True,), 2)), (1, ([1], 2)), (1, [(1,), 2]), (1, ((1,), 2, 3)), (1, ((1,),)), (1, (1, 2)),
                         (1, ((1,), "2")), (1, ((1,), None)), (1, ((1,), (2,))), (2, ((2, 4), 2)), (2, ((0, 3), 3)),
                         (3, ((6, 10, 14), 4)), (3, ((0, 0, 0), 2)), (2, ((1, 1, 1), 2)), (2, ((1,), 2)),
                         (2, ((1, False), 2)), (2, (2, (1, 1)))]:
            self.assertIs(answer(is_spot, n=n, thing=thing), False, thing)

    def test_any_values(self):
        for n in (1, 2, 3):
            for thing in ODD_VALUES + variants(((1, 0, 3)[:n], 2)) + variants(((2, 4, 0)[:n], 9)):
                self.assertIs(answer(is_spot, n=n, thing=thing), is_plain_spot(n, thing), thing)

    def test_plain_place(self):
        chance = random.Random(52)
        for n in (1, 2, 3):
            for _ in range(100):
                spot = random_spot(chance, n, chance.choice([1, 5, 10 ** 5]))
                self.assertEqual(strict(answer(plain_place, n=n, spot=spot)), strict(plain_by_hand(spot)))
        for top in range(-9, 10):
            for bottom in (1, 2, 3, 4, 5):
                if is_spot(1, ((top,), bottom)):
                    self.assertEqual(plain_place(1, ((top,), bottom)), plain_by_hand(((top,), bottom)))

    def test_plain_place_of_halves(self):
        self.assertEqual([plain_place(1, ((top,), 2)) for top in (-5, -3, -1, 1, 3, 5)],
                         [(-2,), (-1,), (0,), (1,), (2,), (3,)])
        self.assertEqual(plain_place(3, ((-1, 1, -3), 2)), (0, 1, -1))
        self.assertEqual(plain_place(3, ((499999, 500000, 500001), 10 ** 6)), (0, 1, 1))
        self.assertEqual(plain_place(3, ((-499999, -500000, -500001), 10 ** 6)), (0, 0, -1))
        self.assertEqual(plain_place(2, ((7, -9), 1)), (7, -9))
        self.assertEqual(plain_place(1, ((10 ** 39,), 2 * 10 ** 39 + 1)), (0,))


class GapTest(unittest.TestCase):

    def test_gap(self):
        chance = random.Random(53)
        for form in some_forms():
            n = len(form)
            for spot in some_spots(chance, form):
                for most in (1, 10 ** 6):
                    place = tuple(chance.randint(-most, most) for _ in range(n))
                    told = gap_of(form, point_of(spot), place)
                    self.assertEqual(strict(answer(gap, form=form, spot=spot, place=place)),
                                     strict((told.numerator, told.denominator)))

    def test_known(self):
        self.assertEqual([gap(SQUARE, ((3, 4), 1), (0, 0)), gap(SQUARE, ((3, 4), 5), (0, 0)), gap(CUBE, ((1, 1, 1), 2),
                          (0, 0, 0)), gap(((200,),), ((1,), 10 ** 6), (0,))], [(25, 1), (1, 1), (3, 4), (1, 5 * 10 ** 9)])
        for form in FORMS.values():
            self.assertEqual(strict(gap(form, ((7,) * len(form), 1), (7,) * len(form))), strict((0, 1)))


class NearestTest(unittest.TestCase):

    def test_nearest_places(self):
        chance = random.Random(54)
        for form in some_forms():
            for spot in some_spots(chance, form):
                places = answer(nearest_places, form=form, spot=spot)
                self.assertEqual(strict(places), strict(tuple(nearest_by_search(form, spot))), (form, spot))

    def test_known(self):
        self.assertEqual(nearest_places(CUBE, ((1, 1, 1), 2)), tuple(itertools.product((0, 1), repeat=3)))
        self.assertEqual(nearest_places(CUBE, ((1, 2, 3), 2)), tuple(itertools.product((0, 1), (1,), (1, 2))))
        self.assertEqual(nearest_places(SIX, ((2, 1), 3)), ((0, 0), (1, 0), (1, 1)))
        self.assertEqual(nearest_places(((5,),), ((-7,), 2)), ((-4,), (-3,)))
        self.assertEqual(nearest_places(((5,),), ((499999,), 10 ** 6)), ((0,),))
        # By this form the plain place is far from the nearest one.
        self.assertEqual(nearest_places(((1, 14), (14, 197)), ((0, 49), 100)), ((7, 0),))
        self.assertEqual(nearest_places(((1, 14), (14, 197)), ((0, 1), 2)), ((-7, 1), (7, 0)))
        self.assertEqual(nearest_places(SQUARE, ((10 ** 6, -10 ** 6), 1)), ((10 ** 6, -10 ** 6),))
        self.assertEqual(nearest_places(SQUARE, ((10 ** 6, -10 ** 6), 999999)), ((1, -1),))

    def test_places_are_nearest_to_themselves(self):
        chance = random.Random(55)
        for form in some_forms():
            place = tuple(chance.randint(-10 ** 6, 10 ** 6) for _ in form)
            self.assertEqual(nearest_places(form, (place, 1)), (place,))
            self.assertEqual(judge_nearest(form, (place, 1), place), ("nearest",))
            self.assertEqual(walk(form, (place, 1), place), ())

    def test_judged(self):
        chance = random.Random(56)
        for form in some_forms():
            n = len(form)
            for spot in some_spots(chance, form)[::2]:
                nearest = nearest_by_search(form, spot)
                places = [nearest[0], nearest[-1], plain_by_hand(spot)]
                places.append(tuple(a + b for a, b in zip(nearest[0], chance.choice(walls_by_search(form)))))
                places.append(tuple(chance.randint(-10 ** 6, 10 ** 6) for _ in range(n)))
                for place in places:
                    told = judge_nearest(form, spot, place)
                    self.assertTrue(is_right(form, spot, place, told), (form, spot, place, told))
                    self.assertEqual(told[0] == "nearest", place in nearest)
                    self.assertIs(nearest_holds(form, spot, place, told), True)
                    self.assertIs(nearest_holds(form, spot, place, ("nearest",)), place in nearest)
                answer(judge_nearest, form=form, spot=spot, place=place)
                self.assertIs(answer(nearest_holds, form=form, spot=spot, place=place, thing=told), True)

    def test_each_better_wall_is_accepted_and_no_other_step(self):
        chance = random.Random(57)
        for form in list(KINDS) + [((1, 3), (3, 10)), ((1, 0), (0, 2))]:
            n = len(form)
            steps = list(itertools.product(range(-2, 3), repeat=n))
            for spot in some_spots(chance, form)[::3 if n < 3 else 5]:
                for place in list(itertools.product((-1, 0, 1), repeat=n))[::1 if n < 3 else 4]:
                    for step in steps[::1 if n < 3 else 3]:
                        thing = ("better", step)
                        self.assertIs(nearest_holds(form, spot, place, thing), is_right(form, spot, place, thing))

    def test_steps_that_lead_nearer_but_are_no_walls(self):
        # (1, 1) and (2, 0) lead nearer, but only walls are told.
        spot = ((1, 1), 1)
        for step, right in [((1, 0), True), ((0, 1), True), ((1, 1), False), ((2, 1), False), ((-1, 0), False)]:
            self.assertIs(nearest_holds(SQUARE, spot, (0, 0), ("better", step)), right)
        self.assertIs(nearest_holds(SQUARE, ((3, 0), 1), (0, 0), ("better", (2, 0))), False)
        # A wall that leads to a place that is just as near doesn't lead nearer.
        self.assertIs(nearest_holds(SQUARE, ((1, 0), 2), (0, 0), ("better", (1, 0))), False)
        self.assertIs(nearest_holds(SQUARE, ((500001, 0), 10 ** 6), (0, 0), ("better", (1, 0))), True)
        self.assertIs(nearest_holds(SQUARE, ((499999, 0), 10 ** 6), (0, 0), ("better", (1, 0))), False)

    def test_any_values(self):
        for form, spot, place in [(((3,),), ((1,), 2), (0,)), (((3,),), ((1,), 2), (2,)), (SLANT, ((1, 1), 2), (1, 0)),
                                  (SLANT, ((1, 1), 2), (1, 1)), (CUBE, ((1, 2, 3), 4), (0, 0, 0)),
                                  (TWELVE, ((1, 2, 3), 4), (0, 1, 1)), (SQUARE, ((1, 0), 1), (0, 0))]:
            wall = next(iter(judge_nearest(form, spot, place)[1:]), walls_by_search(form)[0])
            things = variants(("nearest",)) + variants(("better", wall)) + variants(judge_nearest(form, spot, place))
            for thing in ODD_VALUES + things:
                self.assertIs(answer(nearest_holds, form=form, spot=spot, place=place, thing=thing),
                              is_right(form, spot, place, thing), thing)
        self.assertIs(nearest_holds(SQUARE, ((1, 0), 1), (0, 0), ("better", (1, 0))), True)
        self.assertIs(nearest_holds(SQUARE, ((1, 0), 1), (0, 0), ("better", (True, False))), False)


class WalkTest(unittest.TestCase):

    def check(self, form, spot, place):
        steps = walk(form, spot, place)
        point, here, around = point_of(spot), place, walls_by_search(form)
        self.assertIs(type(steps), tuple)
        for step in steps:
            self.assertTrue(is_plain_step(len(form), step) and step in around)
            there = tuple(a + b for a, b in zip(here, step))
            self.assertLess(gap_of(form, point, there), gap_of(form, point, here))
            here = there
        self.assertIn(here, nearest_by_search(form, spot))
        self.assertIs(nearest_holds(form, spot, here, ("nearest",)), True)
        return steps

    def test_walks(self):
        chance = random.Random(58)
        for form in some_forms():
            for spot in some_spots(chance, form)[::2]:
                far = tuple(number + chance.randint(-5, 5) for number in plain_by_hand(spot))
                for place in [plain_by_hand(spot), far]:
                    self.check(form, spot, place)
                answer(walk, form=form, spot=spot, place=far)

    def test_no_step(self):
        chance = random.Random(59)
        for form in some_forms():
            for spot in some_spots(chance, form)[::3]:
                for place in nearest_by_search(form, spot):
                    self.assertEqual(strict(walk(form, spot, place)), "()")

    def test_long_walks(self):
        self.assertEqual(len(self.check(((1,),), ((0,), 1), (5,))), 5)
        self.assertEqual(len(self.check(CUBE, ((1, 1, 1), 3), (5, -5, 5))), 15)
        steep = ((157, 138, -55), (138, 125, -70), (-55, -70, 146))
        self.assertGreater(len(self.check(steep, ((-263347, 226537, 935842), 999983), (5, 5, -4))), 100)
        self.assertGreater(len(self.check(((1, 14), (14, 197)), ((0, 0), 1), (5, 5))), 50)


class PlainTest(unittest.TestCase):

    def test_judged(self):
        for form in some_forms() + [((1, 0, 0), (0, 5, 0), (0, 0, 9))]:
            n = len(form)
            told = answer(judge_plain, form=form)
            plain = all(form[i][j] == 0 for i in range(n) for j in range(i))
            self.assertEqual(told[0], "right" if plain else "spot")
            self.assertTrue(is_right_for_plain(form, told), (form, told))
            self.assertIs(answer(plain_holds, form=form, thing=told), True)
            self.assertIs(plain_holds(form, ("right",)), plain)
            if not plain:
                # What is returned can be passed on within the limits.
                self.assertTrue(within(told[1]))
                self.assertNotIn(plain_place(n, told[1]), nearest_places(form, told[1]))

    def test_small_forms(self):
        numbers = range(-3, 4)
        for a, b, c in itertools.product(range(1, 6), numbers, range(1, 6)):
            if a * c - b * b > 0:
                form = ((a, b), (b, c))
                self.assertTrue(is_right_for_plain(form, judge_plain(form)), form)
        for a, b, c in itertools.product((-1, 0, 1), repeat=3):
            form = ((2, a, b), (a, 2, c), (b, c, 3))
            self.assertTrue(is_right_for_plain(form, judge_plain(form)), form)

    def test_greatest_integers(self):
        for form in [((200, 1), (1, 200)), ((200, -1), (-1, 200)), ((200, 199), (199, 200)), ((1, 0, 0), (0, 200, -1),
                     (0, -1, 200)), ((200, 0, 1), (0, 200, 0), (1, 0, 200)), ((1, -14), (-14, 197))]:
            told = judge_plain(form)
            self.assertTrue(is_right_for_plain(form, told), (form, told))
            self.assertIs(plain_holds(form, told), True)

    def test_each_wrong_spot_is_accepted_and_no_other(self):
        for form in [((2,),), SQUARE, SLANT, SIX, ((1, 3), (3, 10)), CUBE, TWELVE]:
            n = len(form)
            for tops in itertools.product(range(-3, 4), repeat=n):
                for bottom in (1, 2, 3, 5):
                    thing = ("spot", (tops, bottom))
                    self.assertIs(plain_holds(form, thing), is_right_for_plain(form, thing))

    def test_any_values(self):
        for form in [((3,),), SQUARE, SLANT, CUBE, TWELVE]:
            half = ((1,) * len(form), 2)
            things = variants(judge_plain(form)) + variants(("spot", half)) + variants(("right",))
            for thing in ODD_VALUES + things:
                self.assertIs(answer(plain_holds, form=form, thing=thing), is_right_for_plain(form, thing), thing)
        self.assertIs(plain_holds(SLANT, ("spot", ((1, 1), 2))), True)
        for spot in [((True, 1), 2), ([1, 1], 2), ((2, 2), 4), ((-1, -1), -2), [(1, 1), 2], ((1, 1), 2, 1)]:
            self.assertIs(plain_holds(SLANT, ("spot", spot)), False)


class ErrorsTest(unittest.TestCase):

    def test_bad_form(self):
        for thing in NO_FORMS + ODD_VALUES:
            for spot, place in [(None, None), (((1,), 2), (0,)), (((2,), 2), ())]:
                for function in (gap, judge_nearest, walk):
                    self.assertIs(error_of(BadForm, function, thing, spot, place), thing)
                    self.assertIs(error_of(BadForm, function, place=place, spot=spot, form=thing), thing)
                self.assertIs(error_of(BadForm, nearest_holds, thing, spot, place, ("nearest",)), thing)
                self.assertIs(error_of(BadForm, nearest_holds, thing=None, place=place, spot=spot, form=thing), thing)
                self.assertIs(error_of(BadForm, nearest_places, thing, spot), thing)
                self.assertIs(error_of(BadForm, plain_holds, thing, spot), thing)
            self.assertIs(error_of(BadForm, judge_plain, thing), thing)
            self.assertIs(error_of(BadForm, plain_holds, form=thing, thing=("right",)), thing)

    def test_bad_spot(self):
        for n, form in FORMS.items():
            for thing in ODD_VALUES + variants(((3, 0, 1)[:n], 2)) + [((2,) * n, 2), ((1,) * n, 0), ((1,) * n, -1)]:
                if is_plain_spot(n, thing):
                    continue
                self.assertIs(error_of(BadSpot, plain_place, n, thing), thing)
                self.assertIs(error_of(BadSpot, plain_place, spot=thing, n=n), thing)
                self.assertIs(error_of(BadSpot, nearest_places, form, thing), thing)
                for place in (None, (0,) * n):
                    for function in (gap, judge_nearest, walk):
                        self.assertIs(error_of(BadSpot, function, form, thing, place), thing)
                    self.assertIs(error_of(BadSpot, nearest_holds, form, thing, place, ("nearest",)), thing)

    def test_bad_step(self):
        for n, form in FORMS.items():
            spot = ((1,) * n, 2)
            for thing in ODD_VALUES + variants((3, 0, 1)[:n]) + [spot]:
                if is_plain_step(n, thing):
                    continue
                for function in (gap, judge_nearest, walk):
                    self.assertIs(error_of(BadStep, function, form, spot, thing), thing)
                    self.assertIs(error_of(BadStep, function, place=thing, spot=spot, form=form), thing)
                self.assertIs(error_of(BadStep, nearest_holds, form, spot, thing, ("nearest",)), thing)


class QuickTest(unittest.TestCase):

    def test_quick(self):
        chance = random.Random(60)
        for form in some_forms():
            spot = some_spots(chance, form)[-2]
            place = tuple(number + 5 for number in plain_by_hand(spot))
            for call in [lambda: nearest_places(form, spot), lambda: walk(form, spot, place),
                         lambda: judge_nearest(form, spot, place), lambda: judge_plain(form)]:
                before = time.perf_counter()
                call()
                self.assertLess(time.perf_counter() - before, 0.5)


if __name__ == "__main__":
    unittest.main()
