"""What the document promises over the whole program: parts told of one another, and any values everywhere."""

import importlib
import inspect
import itertools
import math
import random
import unittest
from fractions import Fraction

from nearsteps.alike import alike_holds, judge_alike, least_signs, signs
from nearsteps.cells import corner_holds, corners, counts, face_of, is_in_cell, judge_corner
from nearsteps.coarse import coarse_form, judge_stages, nearest_coarse, stages_hold
from nearsteps.enough import enough_holds, is_enough, judge_enough
from nearsteps.errors import StepError
from nearsteps.forms import back, changed, form_holds, judge_form, led
from nearsteps.holes import centre_of, hole_at, holes, hull_size, is_hole, judge_within, within_holds
from nearsteps.motions import motions, spot_led
from nearsteps.nearest import (
    gap, is_spot, judge_nearest, judge_plain, nearest_holds, nearest_places, plain_holds, walk,
)
from nearsteps.reach import deepest, judge_reach, reach, reach_holds
from nearsteps.readings import judge_reading, may_be_meant, read, reading_holds
from nearsteps.short import least_size
from nearsteps.walls import class_shortest, class_size, is_obtuse, judge_step, obtuse_row, step_holds, walls
from nearsteps.words import leaders, word_of, words
from odd_values import ODD_VALUES, strict
from searches import KINDS, SIX, TWELVE, point_of, random_form, slanted, spot_of
from test_interface import FUNCTIONS
from wide_searches import (
    BALLS, BODY, CUBE, SQUARE, TABLES, changed_within, classes_of, combined, fraction_of, moved, random_coarse, units,
)


def small_forms():
    """Return forms with integers of at most 10."""
    chance = random.Random(161)
    easy = list(KINDS) + [BALLS, ((1, 3), (3, 10)), ((7, 3), (3, 9)), ((2, 0, 0), (0, 3, 0), (0, 0, 10))]
    return easy + [random_form(chance, n, 10) for n in (2, 3) for _ in range(3)]


def some_spots(chance, n):
    points = [(Fraction(1, 2),) * n, tuple(Fraction(chance.randint(-9, 9), 4) for _ in range(n))]
    points += [tuple(Fraction(chance.randint(-500, 500), 97) for _ in range(n))]
    return [spot_of(point) for point in points]


def together(one, other):
    """Return the form that has two forms along the diagonal."""
    n, m = len(one), len(other)
    return tuple(row + (0,) * m for row in one) + tuple((0,) * n + row for row in other)


def joined(one, other):
    """Return the spot whose numbers are those of two spots."""
    return spot_of(point_of(one) + point_of(other))


class MultiplesTest(unittest.TestCase):
    """A multiple of a form: the same walls, corners, holes and motions; sizes and gaps are so many times as great."""

    def test_multiples(self):
        chance = random.Random(162)
        for form in small_forms():
            n = len(form)
            for times in (2, 3):
                more = tuple(tuple(times * number for number in row) for row in form)
                for function in (walls, corners, deepest, counts, holes, motions):
                    self.assertEqual(function(more), function(form))
                self.assertEqual(reach(more), fraction_of(times * Fraction(*reach(form))))
                self.assertEqual(least_size(more), times * least_size(form))
                self.assertEqual(signs(more), tuple(times * size for size in signs(form)))
                self.assertEqual(least_signs(more), tuple(times * size for size in least_signs(form)))
                self.assertIs(is_obtuse(more, obtuse_row(form)), True)
                self.assertEqual(judge_alike(form, more)[0], "signs")
                for kind in classes_of(n):
                    self.assertEqual(class_size(more, kind), times * class_size(form, kind))
                    self.assertEqual(class_shortest(more, kind), class_shortest(form, kind))
                for hole in holes(form):
                    self.assertEqual(centre_of(more, hole), centre_of(form, hole))
                    self.assertEqual(hull_size(more, hole), hull_size(form, hole))
                for spot in some_spots(chance, n):
                    self.assertEqual(nearest_places(more, spot), nearest_places(form, spot))
                    self.assertEqual(read(more, spot), read(form, spot))
                    self.assertEqual(may_be_meant(more, spot, (5 * times, 1)), may_be_meant(form, spot, (5, 1)))
                    self.assertIs(is_hole(more, hole_at(form, spot)), True)

    def test_certificates(self):
        for form in small_forms():
            more = tuple(tuple(2 * number for number in row) for row in form)
            for part in (Fraction(1, 2), Fraction(1), Fraction(999999, 10 ** 6), Fraction(1000001, 10 ** 6)):
                r, e = part * Fraction(*reach(form)), part * Fraction(least_size(form), 4)
                self.assertEqual(judge_reach(more, fraction_of(2 * r)), judge_reach(form, fraction_of(r)))
                told = judge_reading(form, fraction_of(e))
                self.assertEqual(judge_reading(more, fraction_of(2 * e))[0], told[0])
                self.assertIs(reading_holds(more, fraction_of(2 * e), told), True)


class ChangedFormsTest(unittest.TestCase):
    """What is told of a changed form, led by the change, is what is told of the form."""

    def test_changed(self):
        chance = random.Random(163)
        for form in small_forms():
            n = len(form)
            after, change = changed_within(chance, form, 20)
            self.assertEqual(changed(form, change), after)
            self.assertEqual(sorted(led(n, change, wall) for wall in walls(after)), list(walls(form)))
            for function in (corners, deepest):
                self.assertEqual(sorted(spot_led(form, change, spot) for spot in function(after)), list(function(form)))
            for function in (counts, reach, least_size, least_signs):
                self.assertEqual(function(after), function(form))
            self.assertEqual(sorted(signs(after)), sorted(signs(form)))
            self.assertEqual(judge_alike(form, after)[0], "change")
            self.assertIs(alike_holds(form, after, ("change", change)), True)
            self.assertIs(alike_holds(after, form, ("change", back(n, change))), True)
            led_motions = [tuple(led(n, change, led(n, motion, row)) for row in back(n, change)) for motion in motions(after)]
            self.assertEqual(sorted(led_motions), list(motions(form)))
            for hole in holes(after):
                there = tuple(sorted(led(n, change, place) for place in hole))
                self.assertIs(is_hole(form, there), True)
                self.assertEqual(centre_of(form, there), spot_led(form, change, centre_of(after, hole)))
                self.assertEqual(hull_size(form, there), hull_size(after, hole))
            for spot in some_spots(chance, n):
                there = spot_led(form, change, spot)
                self.assertEqual(sorted(led(n, change, place) for place in nearest_places(after, spot)),
                                 list(nearest_places(form, there)))
                self.assertEqual(sorted(led(n, change, place) for place in may_be_meant(after, spot, (4, 1))),
                                 list(may_be_meant(form, there, (4, 1))))

    def test_all_alike_forms_have_the_same_answers(self):
        # Changes of a form that are told by another one lead its walls, too.
        for form in small_forms():
            n = len(form)
            after = slanted(random.Random(164), form, 40)[0]
            word, change = judge_alike(form, after)
            self.assertEqual(word, "change")
            self.assertEqual(sorted(led(n, change, wall) for wall in walls(after)), list(walls(form)))
            self.assertEqual(sorted(spot_led(form, change, spot) for spot in corners(after)), list(corners(form)))


class PutTogetherTest(unittest.TestCase):
    """A form of two forms along the diagonal: cells and holes are all pairs."""

    def test_put_together(self):
        chance = random.Random(165)
        lines, planes = [((1,),), ((3,),), ((10,),)], [SQUARE, SIX, ((1, 3), (3, 10)), ((7, 3), (3, 9))]
        for one, other in list(itertools.product(lines, lines + planes)) + list(itertools.product(planes, lines)):
            both, n, m = together(one, other), len(one), len(other)
            around = [wall + (0,) * m for wall in walls(one)] + [(0,) * n + wall for wall in walls(other)]
            self.assertEqual(list(walls(both)), sorted(around))
            self.assertEqual(list(corners(both)), sorted(joined(a, b) for a in corners(one) for b in corners(other)))
            self.assertEqual(list(deepest(both)), sorted(joined(a, b) for a in deepest(one) for b in deepest(other)))
            self.assertEqual(reach(both), fraction_of(Fraction(*reach(one)) + Fraction(*reach(other))))
            self.assertEqual(least_size(both), min(least_size(one), least_size(other)))
            for kind in classes_of(n + m):
                self.assertEqual(class_size(both, kind), class_size(one, kind[:n]) + class_size(other, kind[n:]))
            told = []
            for first, second in itertools.product(holes(one), holes(other)):
                hole = tuple(a + b for a in first for b in second)
                told.append(hole)
                self.assertEqual(centre_of(both, hole), joined(centre_of(one, first), centre_of(other, second)))
                many = math.comb(n + m, n) * hull_size(one, first) * hull_size(other, second)
                self.assertEqual(hull_size(both, hole), many)
            self.assertEqual(list(holes(both)), sorted(told))
            for first, second in itertools.product(motions(one), motions(other)):
                self.assertIn(together(first, second), motions(both))
            for first, second in zip(some_spots(chance, n), some_spots(chance, m)):
                self.assertEqual(nearest_places(both, joined(first, second)),
                                 tuple(a + b for a in nearest_places(one, first) for b in nearest_places(other, second)))

    def test_alike(self):
        for one, other in itertools.product([((1,),), ((4,),)], [SQUARE, SIX, ((2, 1), (1, 5))]):
            self.assertEqual(judge_alike(together(one, other), together(other, one))[0], "change")
            self.assertEqual(judge_alike(together(one, other), together(one, ((4, 2), (2, 8))))[0], "signs")


class HolesAndCornersTest(unittest.TestCase):

    def test_told_of_one_another(self):
        for form in small_forms():
            n = len(form)
            around = [moved(hole, tuple(-number for number in place)) for hole in holes(form) for place in hole]
            self.assertEqual(sorted(around), sorted(nearest_places(form, corner) for corner in corners(form)))
            self.assertEqual(sorted(centre_of(form, hole) for hole in around), list(corners(form)))
            self.assertEqual(counts(form)[1], sum(len(hole) for hole in holes(form)))
            self.assertEqual(sum(hull_size(form, hole) for hole in holes(form)), math.factorial(n))
            for wall in walls(form):
                # A wall ties at the corners whose holes have it.
                told = sorted(centre_of(form, hole) for hole in around if wall in hole)
                self.assertEqual(told, list(face_of(form, wall)))
            farthest = max(Fraction(*gap(form, centre_of(form, hole), hole[0])) for hole in holes(form))
            self.assertEqual(fraction_of(farthest), reach(form))

    def test_corners_are_deepest_spots_of_their_surroundings(self):
        for form in small_forms():
            for corner in corners(form):
                self.assertEqual(judge_corner(form, corner)[0], "corner")
                self.assertIs(is_in_cell(form, corner), True)
                self.assertEqual(judge_within(form, nearest_places(form, corner), corner)[0] in ("within", "side"), True)


class StagesTest(unittest.TestCase):

    def test_told_by_words_leaders_and_corners(self):
        chance, seen = random.Random(166), set()
        for form in small_forms():
            n = len(form)
            for coarse in chance.sample(TABLES[n], 3) + [random_coarse(chance, n, 3, 9)]:
                if n == 3 and len(words(n, coarse)) > 9:
                    continue
                steps = [combined(coarse, wall) for wall in walls(coarse_form(form, coarse))]
                right = True
                for word in words(n, coarse):
                    for place in leaders(form, coarse, word):
                        for corner in corners(form):
                            spot = spot_of(tuple(a + b for a, b in zip(point_of(corner), place)))
                            here = Fraction(*gap(form, spot, (0,) * n))
                            right = right and all(Fraction(*gap(form, spot, step)) >= here for step in steps)
                self.assertEqual(judge_stages(form, coarse)[0], "right" if right else "spot")
                seen.add((n, right))
        self.assertEqual(len(seen), 6)

    def test_wrong_stages_are_told_by_the_parts(self):
        for form in small_forms():
            n = len(form)
            coarse = tuple(tuple(2 * number for number in row) for row in units(n))
            word, spot, place, end = judge_stages(form, coarse)
            self.assertEqual(word, "spot")
            self.assertIn(place, nearest_places(form, spot))
            self.assertIn(end, nearest_coarse(form, coarse, (place, 1)))
            self.assertNotIn(end, nearest_coarse(form, coarse, spot))
            self.assertEqual(word_of(n, coarse, end), (0,) * n)


class GuaranteeTest(unittest.TestCase):
    """[0.3]: there is a certificate for each, and it is accepted; its opposite kind is not."""

    def test_guarantee(self):
        chance = random.Random(167)
        for form in small_forms():
            n = len(form)
            self.assertIs(form_holds(form, judge_form(form)), True)
            self.assertIs(plain_holds(form, judge_plain(form)), True)
            coarse = chance.choice(TABLES[n])
            self.assertIs(stages_hold(form, coarse, judge_stages(form, coarse)), True)
            steps = chance.sample(walls(form), len(walls(form)) - 1)
            for some in (tuple(steps), walls(form)):
                self.assertIs(enough_holds(form, some, judge_enough(form, some)), True)
                self.assertEqual(is_enough(form, some), judge_enough(form, some) == ("enough",))
            for r in [(1, 3), (9, 2), reach(form)]:
                self.assertIs(reach_holds(form, r, judge_reach(form, r)), True)
                self.assertIs(reading_holds(form, r, judge_reading(form, r)), True)
            for other in [form, ((5, 0, 0)[:n], (0, 6, 1)[:n], (0, 1, 7)[:n])[:n]]:
                self.assertIs(alike_holds(form, other, judge_alike(form, other)), True)
            for spot in some_spots(chance, n):
                place = tuple(chance.randint(-3, 3) for _ in range(n))
                self.assertIs(nearest_holds(form, spot, place, judge_nearest(form, spot, place)), True)
                here = place
                for step in walk(form, spot, place):
                    self.assertIn(step, walls(form))
                    here = tuple(a + b for a, b in zip(here, step))
                self.assertIn(here, nearest_places(form, spot))
                self.assertIs(corner_holds(form, spot, judge_corner(form, spot)), True)
                hole = hole_at(form, spot)
                self.assertEqual(judge_within(form, hole, spot)[0], "within")
                far = moved(hole, (5,) * n)
                self.assertEqual(judge_within(form, far, spot)[0], "side")
                for one in (hole, far):
                    self.assertIs(within_holds(form, one, spot, judge_within(form, one, spot)), True)
            for step in [walls(form)[0], (2,) * n, (1,) * n]:
                self.assertIs(step_holds(form, step, judge_step(form, step)), True)


def values_for(n, function):
    """Return a right value for each name of a parameter of a function."""
    form = (((3,),), SIX, TWELVE)[n - 1]
    told = {
        "n": n, "form": form, "table": form, "one": (1,) + (0,) * (n - 1), "other": (0,) * n, "step": (1,) * n,
        "change": units(n), "most": 5, "kind": (1,) * n, "spot": ((1,) * n, 2), "place": (0,) * n, "steps": ((1,) * n,),
        "wall": walls(form)[0], "r": (1, 2), "e": (1, 2), "coarse": TABLES[n][2], "word": (0,) * n, "hole": holes(form)[0],
        "thing": ("form",),
    }
    if function.__name__ in ("judge_alike", "alike_holds"):
        told.update(one=form, other=form)
    if function.__name__ == "sum_of":
        told.update(one=(0,) * n)
    return told


def functions():
    """Return each function of the interface with the names of its parameters."""
    for file, told in FUNCTIONS.items():
        module = importlib.import_module(f"nearsteps.{file}")
        for name in told:
            yield getattr(module, name), list(inspect.signature(getattr(module, name)).parameters)


def plain_parts(thing):
    """Tell whether a result consists of integers, strings, bools, None and tuples."""
    if type(thing) is tuple:
        return all(map(plain_parts, thing))
    return thing is None or type(thing) in (int, str, bool)


class AnyValuesTest(unittest.TestCase):

    def test_one_value_at_a_time(self):
        # Whatever stands in the place of one argument: an answer, or an error of the package with that value.
        for function, names in functions():
            for n in (1, 2, 3):
                values = values_for(n, function)
                for name in names:
                    # Nothing is promised of numbers beyond the limits.
                    if name in ("n", "most"):
                        continue
                    for value in ODD_VALUES:
                        arguments = {one: values[one] for one in names}
                        arguments[name] = value
                        before = strict(arguments)
                        try:
                            told = function(**arguments)
                        except StepError as error:
                            self.assertIs(error.thing, value)
                        else:
                            self.assertTrue(plain_parts(told), (function, arguments))
                        self.assertEqual(strict(arguments), before)

    def test_kinds_of_answers(self):
        for function, names in functions():
            for n in (1, 2, 3):
                values = values_for(n, function)
                told = function(*[values[name] for name in names])
                self.assertTrue(plain_parts(told), function)
                if function.__name__.startswith(("is_", "are_")) or function.__name__.endswith(("_holds", "_hold")):
                    self.assertIs(type(told), bool)
                self.assertEqual(strict(function(**{name: values[name] for name in reversed(names)})), strict(told))

    def test_all_names_of_the_interface(self):
        self.assertEqual(len(list(functions())), 73)
        self.assertIs(is_spot(2, deepest(SIX)[0]), True)
        self.assertEqual([len(motions(form)) for form in (CUBE, BODY)], [48, 48])


if __name__ == "__main__":
    unittest.main()
