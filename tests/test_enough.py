"""Promise 5.1: lists of steps that are enough."""

import itertools
import random
import time
import unittest

from nearsteps.enough import enough_holds, is_enough, judge_enough
from nearsteps.errors import BadForm, BadList
from odd_values import (
    NO_FORMS, ODD_VALUES, answer, error_of, is_plain_spot, is_plain_step, strict, variants,
)
from searches import (
    KINDS, LINES, SIX, TWELVE, gap_of, nearest_by_search, point_of, random_form, slanted, walls_by_search,
)

SQUARE = ((1, 0), (0, 1))
CUBE = ((1, 0, 0), (0, 1, 0), (0, 0, 1))


def some_forms():
    """Return easy forms, random ones and forms slanted as far as the integers let."""
    chance = random.Random(61)
    easy = list(KINDS) + list(LINES) + [random_form(chance, n, 200) for n in (1, 2, 3) for _ in range(6)]
    easy += [((1, 14), (14, 197)), ((196, 195), (195, 195))]
    return easy + [slanted(chance, form, 200)[0] for form in easy if len(form) > 1]


def some_lists(chance, form):
    """Return lists that are enough, that lack one wall or more, with and without steps that are no walls."""
    n, around = len(form), walls_by_search(form)
    other = [tuple(chance.randint(-most, most) for _ in range(n)) for most in (1, 2, 3, 100) for _ in range(6)]
    doubled = [tuple(2 * number for number in wall) for wall in around[:4]]
    lists = [[], [(0,) * n], around, around[::-1], around + around[:3], around + other, around[:len(around) // 2], other]
    for at in {0, 1, len(around) // 2, len(around) - 1}:
        lacking = around[:at] + around[at + 1:]
        lists += [lacking, other + lacking, lacking + doubled + [(0,) * n], [around[at]]]
    return [tuple(steps) for steps in lists]


def is_right(form, steps, thing):
    """Tell whether a certificate for a list is right, straight from the words of the document."""
    n = len(form)
    if strict(thing) == strict(("enough",)):
        return all(wall in steps for wall in walls_by_search(form))
    if type(thing) is not tuple or len(thing) != 3 or thing[0] != "spot":
        return False
    if not is_plain_spot(n, thing[1]) or not is_plain_step(n, thing[2]):
        return False
    _, spot, place = thing
    point = point_of(spot)
    here = gap_of(form, point, place)
    if any(gap_of(form, point, tuple(a + b for a, b in zip(place, step))) < here for step in steps):
        return False
    return place not in nearest_by_search(form, spot)


class ExamplesTest(unittest.TestCase):

    def test_enough(self):
        plain, some = ((1, 0), (0, 1)), ((1, 0), (-1, 0), (0, 1))
        self.assertEqual(strict([
            judge_enough(plain, some + ((0, -1),)), judge_enough(plain, some)[0],
            enough_holds(plain, some, ('spot', ((0, -1), 1), (0, 0))),
            enough_holds(plain, some, ('spot', ((0, 1), 1), (0, 0))), is_enough(((2, 1), (1, 2)), some + ((0, -1),)),
        ]), strict([('enough',), 'spot', True, False, False]))


class EnoughTest(unittest.TestCase):

    def test_judged(self):
        chance = random.Random(62)
        for form in some_forms():
            for steps in some_lists(chance, form):
                told = judge_enough(form, steps)
                right = all(wall in steps for wall in walls_by_search(form))
                self.assertTrue(is_right(form, steps, told), (form, steps, told))
                self.assertEqual(told[0], "enough" if right else "spot")
                self.assertIs(enough_holds(form, steps, told), True)
                self.assertIs(enough_holds(form, steps, ("enough",)), right)
                self.assertIs(is_enough(form, steps), right)

    def test_calls(self):
        chance = random.Random(63)
        for form in [((200,),), SIX, SQUARE, CUBE, TWELVE, ((1, 14), (14, 197))]:
            for steps in some_lists(chance, form):
                told = answer(judge_enough, form=form, steps=steps)
                self.assertIs(answer(enough_holds, form=form, steps=steps, thing=told), True)
                self.assertIs(answer(is_enough, form=form, steps=steps), told[0] == "enough")

    def test_each_part_of_the_walls(self):
        # Enough are all of them, and no fewer.
        for form in KINDS:
            around = walls_by_search(form)
            for many in {0, 1, 2, len(around) - 1, len(around)}:
                for some in itertools.islice(itertools.combinations(around, many), 60):
                    self.assertIs(is_enough(form, some), many == len(around))
                    self.assertTrue(is_right(form, some, judge_enough(form, some)))

    def test_the_empty_list(self):
        for form in some_forms():
            self.assertIs(is_enough(form, ()), False)
            told = judge_enough(form, ())
            self.assertTrue(is_right(form, (), told))
            self.assertIs(enough_holds(form, (), told), True)
            spot = ((1,) + (0,) * (len(form) - 1), 1)
            self.assertIs(enough_holds(form, (), ("spot", spot, (0,) * len(form))), True)
            self.assertIs(enough_holds(form, (), ("spot", spot, spot[0])), False)

    def test_noughts_repeats_and_steps_that_are_no_walls(self):
        around = ((1, 0), (-1, 0), (0, 1), (0, -1))
        self.assertIs(is_enough(SQUARE, around + around + ((0, 0), (0, 0))), True)
        self.assertIs(is_enough(SQUARE, around[:3] * 3 + ((0, 0), (1, 1), (-1, -1), (0, -2))), False)
        self.assertEqual(judge_enough(((5,),), ((0,), (1,), (-1,), (-1,))), ("enough",))
        self.assertEqual(judge_enough(((5,),), ((0,), (1,), (1,)))[0], "spot")
        # Shorter steps and twice the wall stand in its stead for many spots, but not for all.
        for steps in itertools.combinations([(1, 1), (-1, -1), (1, -1), (0, -2), (2, -1), (-1, 2), (1, -2)], 5):
            told = judge_enough(SQUARE, around[:3] + steps)
            self.assertTrue(is_right(SQUARE, around[:3] + steps, told), told)

    def test_each_right_spot_is_accepted_and_no_other(self):
        for form, steps in [(SQUARE, ((1, 0), (-1, 0), (0, 1))), (SQUARE, ((1, 1), (-1, -1), (0, 1))), (SIX, ((1, 0),)),
                            (SIX, ((1, 0), (-1, 0), (0, 1), (0, -1), (1, 1))), (((3,),), ((1,), (-2,)))]:
            n = len(form)
            for tops in itertools.product(range(-3, 4), repeat=n):
                for bottom, place in itertools.product((1, 2, 3), itertools.product((-1, 0, 1), repeat=n)):
                    thing = ("spot", (tops, bottom), place)
                    self.assertIs(enough_holds(form, steps, thing), is_right(form, steps, thing))

    def test_any_values(self):
        for form in [((3,),), SQUARE, SIX, CUBE]:
            around = tuple(walls_by_search(form))
            for steps in [around, around[1:], ()]:
                things = variants(judge_enough(form, around[1:])) + variants(("enough",))
                for thing in ODD_VALUES + things:
                    self.assertIs(answer(enough_holds, form=form, steps=steps, thing=thing),
                                  is_right(form, steps, thing), thing)
        some = ((1, 0), (-1, 0), (0, 1))
        self.assertIs(enough_holds(SQUARE, some, ("spot", ((0, -1), 1), (0, 0))), True)
        for spot, place in [(((False, -1), 1), (0, 0)), (((0, -1), True), (0, 0)), (((0, -1), 1), (0, False)),
                            (((0, -1), 1), [0, 0]), (((0, -2), 2), (0, 0)), (((0, 1), -1), (0, 0)),
                            (((0, -1), 0), (0, 0)), (((0, -1), 1), (0, 0, 0)), (((0, -1), 1), None)]:
            self.assertIs(enough_holds(SQUARE, some, ("spot", spot, place)), False)


class ErrorsTest(unittest.TestCase):

    def test_bad_form(self):
        for thing in NO_FORMS + ODD_VALUES:
            for steps in (None, (), ((1,),), [()]):
                for function in (judge_enough, is_enough):
                    self.assertIs(error_of(BadForm, function, thing, steps), thing)
                    self.assertIs(error_of(BadForm, function, steps=steps, form=thing), thing)
                self.assertIs(error_of(BadForm, enough_holds, thing, steps, ("enough",)), thing)
                self.assertIs(error_of(BadForm, enough_holds, thing=None, steps=steps, form=thing), thing)

    def test_bad_list(self):
        for form in [((3,),), SIX, TWELVE]:
            n = len(form)
            for thing in ODD_VALUES + variants((tuple(range(n)), (2,) * n)):
                if type(thing) is tuple and all(is_plain_step(n, step) for step in thing):
                    self.assertEqual(is_enough(form, thing), all(wall in thing for wall in walls_by_search(form)))
                    continue
                for function in (judge_enough, is_enough):
                    self.assertIs(error_of(BadList, function, form, thing), thing)
                    self.assertIs(error_of(BadList, function, steps=thing, form=form), thing)
                self.assertIs(error_of(BadList, enough_holds, form, thing, ("enough",)), thing)
                self.assertIs(error_of(BadList, enough_holds, form=form, steps=thing, thing=None), thing)


class QuickTest(unittest.TestCase):

    def test_quick(self):
        chance = random.Random(64)
        for form in some_forms():
            steps = tuple(tuple(chance.randint(-100, 100) for _ in form) for _ in range(40))
            for call in [lambda: judge_enough(form, steps), lambda: is_enough(form, steps),
                         lambda: enough_holds(form, steps, judge_enough(form, steps))]:
                before = time.perf_counter()
                call()
                self.assertLess(time.perf_counter() - before, 0.5)


if __name__ == "__main__":
    unittest.main()
