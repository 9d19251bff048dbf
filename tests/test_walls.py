"""Promises 3.1 to 3.3: classes, walls and obtuse rows."""

import itertools
import random
import time
import unittest

from nearsteps.errors import BadForm, BadStep
from nearsteps.walls import (
    class_of, class_shortest, class_size, is_obtuse, judge_step, obtuse_row, step_holds, walls,
)
from odd_values import (
    NO_FORMS, ODD_VALUES, added, answer, error_of, is_plain_step, plain_changed, plain_determinant, plain_lean,
    strict, variants,
)
from searches import (
    KINDS, LINES, SIX, TWELVE, classes_by_search, plain_class, random_form, slanted, walls_by_search,
)

CUBE = ((1, 0, 0), (0, 1, 0), (0, 0, 1))


def classes_of(n):
    return list(itertools.product((0, 1), repeat=n))


def some_forms():
    """Return easy forms, random ones and forms slanted as far as the integers let."""
    chance = random.Random(41)
    easy = list(KINDS) + list(LINES) + [random_form(chance, n, 200) for n in (1, 2, 3) for _ in range(12)]
    easy += [((1, 0), (0, 2)), ((1, 0, 0), (0, 2, 0), (0, 0, 3)), ((2, 1, 0), (1, 2, 0), (0, 0, 7)), ((200, 0), (0, 1))]
    easy += [plain_changed(form, added(len(form), len(form) - 1, 0, times))
             for form in (((1, 0), (0, 1)), CUBE) for times in (1, -1, 7, -13, 14)]
    return easy + [slanted(chance, form, 200)[0] for form in easy if len(form) > 1]


def negated(step):
    return tuple(-number for number in step)


def is_right(form, step, thing):
    """Tell whether a certificate for a step is right, straight from the words of the document."""
    if strict(thing) == strict(("wall",)):
        return step in walls_by_search(form)
    if type(thing) is not tuple or len(thing) != 2 or thing[0] != "other" or not is_plain_step(len(form), thing[1]):
        return False
    other = thing[1]
    return (other not in (step, negated(step)) and plain_class(other) == plain_class(step)
            and plain_lean(form, other, other) <= plain_lean(form, step, step))


def is_row(form, thing):
    """Tell whether a value is an obtuse row, straight from the words of the document."""
    n = len(form)
    if type(thing) is not tuple or len(thing) != n + 1 or not all(is_plain_step(n, step) for step in thing):
        return False
    return (all(sum(column) == 0 for column in zip(*thing)) and plain_determinant(thing[:-1]) in (1, -1)
            and all(plain_lean(form, one, other) <= 0 for one, other in itertools.combinations(thing, 2)))


class ExamplesTest(unittest.TestCase):

    def test_walls(self):
        slant, plain = ((2, 1), (1, 2)), ((1, 0), (0, 1))
        self.assertEqual(strict([
            walls(plain), len(walls(slant)), class_of(2, (3, -2)), class_size(slant, (1, 1)),
            class_shortest(plain, (1, 1)), class_shortest(slant, (1, 1)), class_shortest(slant, (0, 0)),
        ]), strict([
            ((-1, 0), (0, -1), (0, 1), (1, 0)), 6, (1, 0), 2, ((-1, -1), (-1, 1), (1, -1), (1, 1)),
            ((-1, 1), (1, -1)), ((0, 0),),
        ]))

    def test_certificates(self):
        slant, plain = ((2, 1), (1, 2)), ((1, 0), (0, 1))
        self.assertEqual(strict([
            judge_step(slant, (1, 0)), step_holds(plain, (1, 1), ('other', (-1, 1))),
            step_holds(plain, (2, 0), ('other', (0, 0))), is_obtuse(slant, ((1, 0), (0, -1), (-1, 1))),
            is_obtuse(slant, ((1, 0), (0, 1), (-1, -1))), is_obtuse(slant, obtuse_row(slant)),
        ]), strict([('wall',), True, True, True, False, True]))


class ClassesTest(unittest.TestCase):

    def test_class_of(self):
        chance = random.Random(1)
        for n in (1, 2, 3):
            for most in (3, 10 ** 7, 10 ** 39):
                for _ in range(30):
                    step = tuple(chance.randint(-most, most) for _ in range(n))
                    self.assertEqual(strict(answer(class_of, n=n, step=step)), strict(plain_class(step)))
            self.assertEqual({class_of(n, step) for step in itertools.product(range(-2, 3), repeat=n)},
                             set(classes_of(n)))
        self.assertEqual([class_of(3, (-1, -2, -3)), class_of(1, (0,)), class_of(2, (10, 7))], [(1, 0, 1), (0,), (0, 1)])

    def test_shortest_of_classes(self):
        for form in some_forms():
            told = classes_by_search(form)
            for kind in classes_of(len(form)):
                shortest = answer(class_shortest, form=form, kind=kind)
                self.assertEqual(strict(shortest), strict(tuple(told[kind])))
                reached = answer(class_size, form=form, kind=kind)
                self.assertEqual(strict(reached), strict(plain_lean(form, shortest[0], shortest[0])))

    def test_class_of_noughts(self):
        for form in some_forms():
            noughts = (0,) * len(form)
            self.assertEqual(strict(class_shortest(form, noughts)), strict((noughts,)))
            self.assertEqual(strict(class_size(form, noughts)), "0")

    def test_two_and_more_shortest_steps(self):
        self.assertEqual([len(class_shortest(CUBE, kind)) for kind in classes_of(3)], [1, 2, 2, 4, 2, 4, 4, 8])
        self.assertEqual([len(class_shortest(TWELVE, kind)) for kind in classes_of(3)], [1, 2, 2, 2, 2, 6, 2, 2])
        self.assertEqual(class_shortest(SIX, (1, 1)), ((-1, -1), (1, 1)))
        self.assertEqual(class_shortest(((1, 14), (14, 197)), (1, 0)), ((-1, 0), (1, 0)))
        self.assertEqual(class_shortest(((1, 14), (14, 197)), (0, 1)), ((-14, 1), (14, -1)))
        self.assertEqual(class_shortest(((1, 14), (14, 197)), (1, 1)), ((-15, 1), (-13, 1), (13, -1), (15, -1)))
        self.assertEqual(class_shortest(((200,),), (1,)), ((-1,), (1,)))
        self.assertEqual([class_size(((1, 0, 0), (0, 1, 0), (0, 0, 200)), kind) for kind in classes_of(3)],
                         [0, 200, 1, 201, 1, 201, 2, 202])


class WallsTest(unittest.TestCase):

    def test_walls(self):
        for form in some_forms():
            found = answer(walls, form=form)
            self.assertEqual(strict(found), strict(tuple(walls_by_search(form))))
            self.assertEqual(list(found), sorted(set(found)))
            self.assertLessEqual(len(found), 2 * (2 ** len(form) - 1))
            self.assertNotIn((0,) * len(form), [plain_class(step) for step in found])

    def test_known(self):
        self.assertEqual(walls(((3,),)), ((-1,), (1,)))
        self.assertEqual(walls(SIX), ((-1, -1), (-1, 0), (0, -1), (0, 1), (1, 0), (1, 1)))
        self.assertEqual(walls(CUBE), ((-1, 0, 0), (0, -1, 0), (0, 0, -1), (0, 0, 1), (0, 1, 0), (1, 0, 0)))
        self.assertEqual(walls(((1, 14), (14, 197))), ((-14, 1), (-1, 0), (1, 0), (14, -1)))
        for form, (many, _) in KINDS.items():
            self.assertEqual(len(walls(form)), many)

    def test_walls_of_a_changed_form(self):
        chance = random.Random(43)
        for form in list(KINDS) + list(LINES):
            for _ in range(4):
                other, change = slanted(chance, form, 200)
                n = len(form)
                led = [tuple(sum(step[i] * change[i][j] for i in range(n)) for j in range(n)) for step in walls(other)]
                self.assertEqual(strict(tuple(sorted(led))), strict(walls(form)))

    def test_judged(self):
        chance = random.Random(44)
        for form in some_forms():
            n = len(form)
            steps = list(walls(form)[:4]) + [class_shortest(form, kind)[0] for kind in classes_of(n)]
            steps += [tuple(3 * number for number in step) for step in steps[:2]]
            steps += [tuple(2 * number for number in step) for step in steps[:2]]
            steps += [tuple(chance.randint(-most, most) for _ in range(n)) for most in (1, 2, 9, 200, 10 ** 7)]
            for step in steps:
                if any(step):
                    told = answer(judge_step, form=form, step=step)
                    self.assertTrue(is_right(form, step, told), (form, step, told))
                    self.assertIs(answer(step_holds, form=form, step=step, thing=told), True)
                    self.assertEqual(told[0] == "wall", step in walls_by_search(form))
                    self.assertIs(step_holds(form, step, ("wall",)), told[0] == "wall")

    def test_each_other_step_is_accepted_and_no_more(self):
        for form in list(KINDS) + [((1, 3), (3, 10)), ((5, 4), (4, 5))]:
            n = len(form)
            reach = {1: 5, 2: 3, 3: 1}[n]
            box = list(itertools.product(range(-reach, reach + 1), repeat=n))
            for step in box:
                for other in box if any(step) else []:
                    thing = ("other", other)
                    self.assertIs(step_holds(form, step, thing), is_right(form, step, thing))

    def test_right_and_wrong_certificates(self):
        plain = ((1, 0), (0, 1))
        for step, other in [((1, 1), (1, -1)), ((1, 1), (-1, 1)), ((2, 0), (0, 0)), ((2, 0), (0, 2)), ((0, -2), (0, 0)),
                            ((3, 0), (1, 0)), ((3, 0), (-1, 2)), ((10 ** 38, 1), (0, 1))]:
            self.assertIs(step_holds(plain, step, ("other", other)), True)
            self.assertIs(step_holds(form=plain, step=step, thing=("other", other)), True)
            self.assertIs(step_holds(plain, step, ("wall",)), False)
        for step, other in [((1, 1), (1, 1)), ((1, 1), (-1, -1)), ((1, 1), (1, 0)), ((1, 1), (3, 1)), ((1, 0), (-1, 0)),
                            ((1, 0), (0, 1)), ((1, 0), (0, 0)), ((1, 0), (1, 2)), ((2, 0), (-2, 0)), ((2, 0), (2, 2)),
                            ((2, 0), (1, 1)), ((2, 0), (1, 0))]:
            self.assertIs(step_holds(plain, step, ("other", other)), False, (step, other))
        for thing in [("wall",)]:
            self.assertIs(step_holds(plain, (1, 0), thing), True)
            self.assertIs(step_holds(plain, (0, -1), thing), True)
        for thing in [["wall"], "wall", ("wall", ()), ("wall", (1, 0)), ("Wall",), ("walls",), ("other",), (), None, True]:
            self.assertIs(step_holds(plain, (1, 0), thing), False)
        for other in [[1, -1], (True, -1), (1, -1, 0), (1,), ((1, -1),), "ab", None, {0: 1, 1: -1}, (1, "-1")]:
            self.assertIs(step_holds(plain, (1, 1), ("other", other)), False)
        self.assertIs(step_holds(plain, (2, 2), ("other", (False, False))), False)

    def test_any_values(self):
        for form in KINDS:
            n = len(form)
            for step in [(1,) + (0,) * (n - 1), (2,) * n, (1,) * n, (0,) * (n - 1) + (-3,)]:
                things = [("wall",), judge_step(form, step), ("other", (0,) * n), ("other", (1,) * n)]
                for thing in ODD_VALUES + [other for right in things for other in variants(right)]:
                    self.assertIs(answer(step_holds, form=form, step=step, thing=thing), is_right(form, step, thing))


class ObtuseTest(unittest.TestCase):

    def test_obtuse_row(self):
        for form in some_forms():
            row = answer(obtuse_row, form=form)
            self.assertTrue(is_row(form, row), (form, row))
            self.assertIs(answer(is_obtuse, form=form, thing=row), True)

    def test_sums(self):
        for form in some_forms():
            row, n = obtuse_row(form), len(form)
            kinds = {}
            for many in range(1, n + 1):
                for some in itertools.combinations(row, many):
                    step = tuple(sum(column) for column in zip(*some))
                    kinds.setdefault(class_of(n, step), []).append(step)
            self.assertEqual(sorted(kinds), classes_of(n)[1:])
            for kind, steps in kinds.items():
                self.assertEqual(len(steps), 2)
                self.assertEqual(steps[0], negated(steps[1]))
                self.assertLessEqual(set(steps), set(class_shortest(form, kind)))

    def test_any_order_and_opposites(self):
        for form in some_forms():
            row = obtuse_row(form)
            for other in itertools.permutations(row):
                self.assertIs(is_obtuse(form, other), True)
                self.assertIs(is_obtuse(form, tuple(map(negated, other))), True)
            self.assertIs(is_obtuse(form, row[:-1] + (negated(row[-1]),)), False)
            self.assertIs(is_obtuse(form, tuple(tuple(2 * number for number in step) for step in row)), False)

    def test_all_small_ones(self):
        for form in [((1,),), ((7,),), SIX, ((1, 0), (0, 1)), ((2, 1), (1, 2)), ((1, 1), (1, 3))]:
            n = len(form)
            reach = {1: 4, 2: 2}[n]
            for some in itertools.product(itertools.product(range(-reach, reach + 1), repeat=n), repeat=n):
                last = tuple(-sum(column) for column in zip(*some))
                self.assertIs(is_obtuse(form, some + (last,)), is_row(form, some + (last,)))
                self.assertIs(is_obtuse(form, some + (some[0],)), is_row(form, some + (some[0],)))
        steps = list(itertools.product(range(-1, 2), repeat=3))
        for form, some in itertools.product([CUBE, TWELVE], itertools.product(steps[::2], steps[1::2], steps)):
            row = some + (tuple(-sum(column) for column in zip(*some)),)
            self.assertIs(is_obtuse(form, row), is_row(form, row))

    def test_any_values(self):
        for form in KINDS:
            row = obtuse_row(form)
            for thing in ODD_VALUES + variants(row):
                self.assertIs(answer(is_obtuse, form=form, thing=thing), is_row(form, thing), (form, thing))
        self.assertIs(is_obtuse(((1, 0), (0, 1)), ((1, 0), (0, 1), (-1, -1))), True)
        self.assertIs(is_obtuse(((1, 0), (0, 1)), ((True, 0), (0, 1), (-1, -1))), False)
        self.assertIs(is_obtuse(((1, 0), (0, 1)), ((1, 0), (0, 1), [-1, -1])), False)
        self.assertIs(is_obtuse(((1, 0), (0, 1)), [(1, 0), (0, 1), (-1, -1)]), False)
        self.assertIs(is_obtuse(((1, 0), (0, 1)), ((1, 0), (-1, 0), (0, 0))), False)
        self.assertIs(is_obtuse(((1, 0), (0, 1)), ((1, 0), (0, 1), (-1, -1), (0, 0))), False)


class ErrorsTest(unittest.TestCase):

    def test_bad_form(self):
        for thing in NO_FORMS + ODD_VALUES:
            for other in (None, (1,), (1, 0)):
                self.assertIs(error_of(BadForm, class_size, thing, other), thing)
                self.assertIs(error_of(BadForm, class_shortest, kind=other, form=thing), thing)
                self.assertIs(error_of(BadForm, judge_step, thing, other), thing)
                self.assertIs(error_of(BadForm, step_holds, thing, other, ("wall",)), thing)
                self.assertIs(error_of(BadForm, is_obtuse, thing, other), thing)
            self.assertIs(error_of(BadForm, walls, thing), thing)
            self.assertIs(error_of(BadForm, walls, form=thing), thing)
            self.assertIs(error_of(BadForm, obtuse_row, thing), thing)
            self.assertIs(error_of(BadForm, step_holds, thing=None, step=None, form=thing), thing)

    def test_bad_step(self):
        for n, form in [(1, ((3,),)), (2, SIX), (3, TWELVE)]:
            for thing in ODD_VALUES + variants((1, 2, 0)[:n]):
                if not is_plain_step(n, thing):
                    self.assertIs(error_of(BadStep, class_of, n, thing), thing)
                    self.assertIs(error_of(BadStep, class_of, n=n, step=thing), thing)
                if not is_plain_step(n, thing) or not any(thing):
                    self.assertIs(error_of(BadStep, judge_step, form, thing), thing)
                    self.assertIs(error_of(BadStep, step_holds, form, thing, ("wall",)), thing)
                    self.assertIs(error_of(BadStep, step_holds, thing=None, form=form, step=thing), thing)
            noughts = (0,) * n
            self.assertEqual(class_of(n, noughts), noughts)
            self.assertIs(error_of(BadStep, judge_step, form, noughts), noughts)
            self.assertIs(error_of(BadStep, step_holds, form, noughts, ("other", (2,) * n)), noughts)

    def test_bad_class(self):
        for n, form in [(1, ((3,),)), (2, SIX), (3, TWELVE)]:
            for thing in ODD_VALUES + variants((1, 0, 1)[:n]) + [(2,) * n, (-1,) * n, (1,) * (n - 1) + (3,)]:
                if not is_plain_step(n, thing) or not set(thing) <= {0, 1}:
                    self.assertIs(error_of(BadStep, class_size, form, thing), thing)
                    self.assertIs(error_of(BadStep, class_shortest, form=form, kind=thing), thing)


class QuickTest(unittest.TestCase):

    def test_quick(self):
        for form in some_forms():
            kind = (1,) * len(form)
            for call in [lambda: walls(form), lambda: obtuse_row(form), lambda: class_shortest(form, kind),
                         lambda: judge_step(form, (10 ** 7,) * len(form))]:
                before = time.perf_counter()
                call()
                self.assertLess(time.perf_counter() - before, 0.5)


if __name__ == "__main__":
    unittest.main()
