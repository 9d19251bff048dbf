"""Promise 2.1: short steps."""

import itertools
import random
import time
import unittest

from nearsteps.errors import BadForm, BadNumber
from nearsteps.short import least_size, many_by_size, short_steps
from odd_values import (
    NO_FORMS, ODD_VALUES, added, error_of, plain_changed, plain_determinant, plain_lean, strict,
)
from searches import LINES, SIX, TWELVE, all_within, least_by_search, random_form, slanted

NO_NUMBERS = [None, True, False, -1, -10 ** 39, "", "1", (), (1,), [], [1], {}, {1: 1}, ((1,),)]


def greatest_most(form):
    """Return the greatest most within the limits of part 2."""
    sizes = sorted(plain_lean(form, step, step) for step in all_within(form, 400) if any(step))
    return 400 if len(sizes) <= 400 else sizes[400] - 1


class ExamplesTest(unittest.TestCase):

    def test_short_steps(self):
        slant = ((2, 1), (1, 2))
        self.assertEqual(strict([
            short_steps(slant, 2), many_by_size(slant, 6), least_size(((4, 0), (0, 3))), short_steps(((5,),), 20),
        ]), strict([
            ((-1, 0), (-1, 1), (0, -1), (0, 1), (1, -1), (1, 0)), (1, 0, 6, 0, 0, 0, 6), 3,
            ((-2,), (-1,), (1,), (2,)),
        ]))


class ShortStepsTest(unittest.TestCase):

    def check(self, form, most):
        told = all_within(form, most)
        steps = short_steps(form, most)
        self.assertEqual(strict(steps), strict(tuple(step for step in told if any(step))))
        self.assertEqual(strict(short_steps(form=form, most=most)), strict(steps))
        counts = [0] * (most + 1)
        for step in told:
            counts[plain_lean(form, step, step)] += 1
        many = many_by_size(form, most)
        self.assertEqual(strict(many), strict(tuple(counts)))
        self.assertEqual(strict(many_by_size(most=most, form=form)), strict(many))

    def check_least(self, form):
        least = least_size(form)
        self.assertEqual(strict(least), strict(least_by_search(form)))
        self.assertEqual(strict(least_size(form=form)), strict(least))
        self.assertEqual(strict(short_steps(form, least - 1)), "()")
        self.assertEqual(strict(many_by_size(form, least - 1)), strict((1,) + (0,) * (least - 1)))
        shortest = short_steps(form, least)
        self.assertTrue(shortest and len(shortest) % 2 == 0)
        self.assertEqual({plain_lean(form, step, step) for step in shortest}, {least})
        self.assertEqual(many_by_size(form, least)[least], len(shortest))

    def test_ordinary(self):
        for form, most in LINES.items():
            self.assertLessEqual(most, greatest_most(form))
            self.check(form, most)
            self.check_least(form)

    def test_known_counts(self):
        self.assertEqual(many_by_size(((1, 0, 0), (0, 1, 0), (0, 0, 1)), 20), (
            1, 6, 12, 8, 6, 24, 24, 0, 12, 30, 24, 24, 8, 24, 48, 0, 6, 48, 36, 24, 24))
        self.assertEqual(many_by_size(((1, 0), (0, 1)), 10), (1, 4, 4, 0, 4, 8, 0, 0, 4, 4, 8))
        self.assertEqual(many_by_size(TWELVE, 8), (1, 0, 12, 0, 6, 0, 24, 0, 12))
        self.assertEqual(many_by_size(((1,),), 9), (1, 2, 0, 0, 2, 0, 0, 0, 0, 2))

    def test_most_nought(self):
        for form in LINES:
            self.assertEqual(strict(short_steps(form, 0)), "()")
            self.assertEqual(strict(many_by_size(form, 0)), "(1,)")

    def test_at_and_below_a_size(self):
        for form, most in LINES.items():
            told = all_within(form, most)
            sizes = sorted({plain_lean(form, step, step) for step in told})
            for reached in sizes[:8] + sizes[-2:]:
                self.check(form, reached)
                if reached:
                    self.check(form, reached - 1)

    def test_small_forms(self):
        numbers = range(-2, 3)
        for a, b, c in itertools.product(range(1, 4), numbers, range(1, 4)):
            form = ((a, b), (b, c))
            if a * c - b * b > 0:
                self.check(form, 12)
                self.check_least(form)
        for a, b, c in itertools.product(numbers, repeat=3):
            form = ((2, a, b), (a, 3, c), (b, c, 4))
            if plain_determinant(form) > 0 and 6 - a * a > 0:
                self.check(form, 6)
                self.check_least(form)

    def test_random_forms(self):
        chance = random.Random(21)
        for _ in range(60):
            form = random_form(chance, chance.choice([1, 2, 3]), 200)
            most = min(chance.choice([400, 50, 10]), greatest_most(form))
            self.check(form, most)
            self.check_least(form)

    def test_slanted_rows(self):
        # Each one is an easy form with one row added to another again and again.
        for n in (2, 3):
            unit = tuple(tuple(int(i == j) for j in range(n)) for i in range(n))
            for times in (1, -1, 7, -13, 14):
                form = plain_changed(unit, added(n, n - 1, 0, times))
                self.assertLessEqual(max(map(max, form)), 200)
                for most in (0, 1, 2, 9, 20):
                    self.check(form, most)
                self.check_least(form)
        self.assertEqual(short_steps(((1, 14), (14, 197)), 1), ((-14, 1), (-1, 0), (1, 0), (14, -1)))
        self.assertEqual(least_size(((196, 195), (195, 195))), 1)

    def test_slanted_as_far_as_it_goes(self):
        chance = random.Random(22)
        for form, most in LINES.items():
            for _ in range(4):
                other, change = slanted(chance, form, 200)
                n = len(form)
                led = {tuple(sum(step[i] * change[i][j] for i in range(n)) for j in range(n)): step
                       for step in short_steps(other, most)}
                self.assertEqual(sorted(led), sorted(short_steps(form, most)))
                self.assertEqual(strict(short_steps(other, most)), strict(tuple(sorted(led.values()))))
                self.assertEqual(strict(many_by_size(other, most)), strict(many_by_size(form, most)))
                self.assertEqual(strict(least_size(other)), strict(least_size(form)))

    def test_slanted_and_searched(self):
        chance = random.Random(23)
        for n in (2, 3):
            for _ in range(12):
                form = slanted(chance, random_form(chance, n, 40), 200)[0]
                self.check(form, min(60, greatest_most(form)))
                self.check_least(form)

    def test_opposites_and_order(self):
        for form, most in LINES.items():
            steps = short_steps(form, most)
            self.assertEqual(list(steps), sorted(set(steps)))
            self.assertEqual(steps, tuple(tuple(-number for number in step) for step in reversed(steps)))
            self.assertEqual(sum(many_by_size(form, most)), len(steps) + 1)
            self.assertEqual(len(many_by_size(form, most)), most + 1)

    def test_quick(self):
        chance = random.Random(24)
        for form, most in LINES.items():
            other = slanted(chance, form, 200)[0]
            for call in [lambda: short_steps(other, most), lambda: many_by_size(other, most),
                         lambda: least_size(other)]:
                before = time.perf_counter()
                call()
                self.assertLess(time.perf_counter() - before, 0.5)

    def test_beyond_the_limits(self):
        self.assertEqual(short_steps(((1, 300), (300, 90001)), 1), ((-300, 1), (-1, 0), (1, 0), (300, -1)))
        self.assertEqual(len(short_steps(((1, 0), (0, 1)), 1000)), 3148)
        self.assertEqual(least_size(((10 ** 39,),)), 10 ** 39)


class ErrorsTest(unittest.TestCase):

    def test_bad_form(self):
        for thing in NO_FORMS + ODD_VALUES:
            self.assertIs(error_of(BadForm, short_steps, thing, 1), thing)
            self.assertIs(error_of(BadForm, many_by_size, thing, 1), thing)
            self.assertIs(error_of(BadForm, least_size, thing), thing)
            self.assertIs(error_of(BadForm, least_size, form=thing), thing)

    def test_bad_form_comes_first(self):
        for thing, most in itertools.product(NO_FORMS, NO_NUMBERS):
            self.assertIs(error_of(BadForm, short_steps, thing, most), thing)
            self.assertIs(error_of(BadForm, many_by_size, most=most, form=thing), thing)

    def test_bad_number(self):
        numbers = NO_NUMBERS + [thing for thing in ODD_VALUES if type(thing) is not int]
        for form, thing in itertools.product([((1,),), SIX, TWELVE], numbers):
            self.assertIs(error_of(BadNumber, short_steps, form, thing), thing)
            self.assertIs(error_of(BadNumber, short_steps, form=form, most=thing), thing)
            self.assertIs(error_of(BadNumber, many_by_size, form, thing), thing)
            self.assertIs(error_of(BadNumber, many_by_size, form=form, most=thing), thing)


if __name__ == "__main__":
    unittest.main()
