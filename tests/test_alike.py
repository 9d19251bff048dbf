"""Promises 8.1 and 8.2: signs, and forms that are alike."""

import itertools
import random
import time
import unittest

from nearsteps.alike import alike_holds, judge_alike, least_signs, signs
from nearsteps.errors import BadForm
from nearsteps.forms import changed
from nearsteps.short import many_by_size
from nearsteps.walls import class_size
from odd_values import (
    NO_FORMS, ODD_VALUES, answer, error_of, is_plain_step, plain_changed, plain_determinant, strict, variants,
)
from searches import KINDS, SIX, TWELVE, random_form, slanted
from wide_searches import (
    BALLS, BODY, CUBE, SQUARE, changed_within, changes_by_search, classes_of, combined, form_within, kinds_of_forms,
    least_signs_by_search, random_change, renamings_by_search, signs_by_search, units,
)


def some_forms():
    return kinds_of_forms(random.Random(101), 40, 2) + [((1, 6), (6, 37)), ((40, 39), (39, 40))]


def small_forms():
    """Return all forms of small integers, many of which are alike."""
    found = [((a,),) for a in (1, 2, 3)]
    found += [((a, b), (b, c)) for a, b, c in itertools.product(range(1, 5), range(-2, 3), range(1, 5)) if a * c > b * b]
    for a, b, c, d, e, f in itertools.product((1, 2), (-1, 0, 1), (0, 1), (1, 2, 3), (-1, 0, 1), (2, 3)):
        form = ((a, b, c), (b, d, e), (c, e, f))
        if a * d > b * b and plain_determinant(form) > 0:
            found.append(form)
    return found


def is_right(one, other, thing):
    """Tell whether a certificate for two forms is right, straight from the words of the document."""
    n = len(one)
    if type(thing) is tuple and len(thing) == 2 and thing[0] == "change":
        change = thing[1]
        if type(change) is not tuple or len(change) != n or not all(is_plain_step(n, row) for row in change):
            return False
        return plain_determinant(change) in (1, -1) and plain_changed(one, change) == other
    if type(thing) is not tuple or len(thing) != 3 or thing[0] != "signs":
        return False
    told = (least_signs_by_search(one), least_signs_by_search(other))
    return strict(thing[1:]) == strict(told) and told[0] != told[1]


class ExamplesTest(unittest.TestCase):

    def test_alike(self):
        SQUARE, SIX, OTHER = ((1, 0), (0, 1)), ((2, -1), (-1, 2)), ((2, 1), (1, 2))
        self.assertEqual(strict([
            signs(SQUARE), signs(SIX), least_signs(((2, 1), (1, 1))), judge_alike(SIX, OTHER)[0],
            alike_holds(SIX, OTHER, ('change', ((1, 0), (0, -1)))), judge_alike(SQUARE, SIX),
        ]), strict([(1, 1, 2), (2, 2, 2), (1, 1, 2), 'change', True, ('signs', (1, 1, 2), (2, 2, 2))]))


class SignsTest(unittest.TestCase):

    def test_signs(self):
        for form in some_forms() + small_forms()[::7]:
            told = answer(signs, form=form)
            self.assertEqual(strict(told), strict(signs_by_search(form)), form)
            self.assertEqual(told, tuple(class_size(form, kind) for kind in classes_of(len(form))[1:]))

    def test_least_signs(self):
        for form in some_forms() + small_forms()[::7]:
            self.assertEqual(strict(answer(least_signs, form=form)), strict(least_signs_by_search(form)), form)

    def test_known(self):
        self.assertEqual([signs(((7,),)), least_signs(((7,),))], [(7,), (7,)])
        self.assertEqual(signs(CUBE), (1, 1, 2, 1, 2, 2, 3))
        self.assertEqual(least_signs(((3, 0, 0), (0, 2, 0), (0, 0, 1))), (1, 2, 3, 3, 4, 5, 6))
        self.assertEqual([signs(((40, 0), (0, 1))), least_signs(((40, 0), (0, 1)))], [(1, 40, 41), (1, 40, 41)])
        self.assertEqual(signs(((1, 0), (0, 40))), (40, 1, 41))

    def test_all_renamings(self):
        self.assertEqual([len(renamings_by_search(n)) for n in (1, 2, 3)], [1, 6, 168])
        for form in [((7,),), ((3, 1), (1, 5)), ((8, 1, 2), (1, 13, 3), (2, 3, 18))]:
            n = len(form)
            self.assertEqual(len(set(signs(form))), 2 ** n - 1)
            sizes = dict(zip(classes_of(n)[1:], signs(form)))
            told = sorted(tuple(sizes[tuple(number % 2 for number in combined(rows, kind))] for kind in classes_of(n)[1:])
                          for rows in renamings_by_search(n))
            self.assertEqual(len(set(told)), len(told))
            self.assertEqual(least_signs(form), told[0])

    def test_renamed_forms_have_the_same_least_signs(self):
        # A change modulo 2 is a renaming; each one comes of some change.
        chance = random.Random(102)
        for form in [((5,),), ((3, 1), (1, 5)), ((4, 1, 1), (1, 5, 2), (1, 2, 6))]:
            told, seen = least_signs(form), set()
            for _ in range(300):
                change = random_change(chance, len(form), 10)
                after = plain_changed(form, change)
                if form_within(after, 40) or len(form) == 3:
                    self.assertEqual(least_signs(after), told)
                    seen.add(signs(after))
            self.assertGreaterEqual(len(seen), {1: 1, 2: 6, 3: 50}[len(form)])


class AlikeTest(unittest.TestCase):

    def test_changed_forms(self):
        chance = random.Random(103)
        for form in some_forms():
            for _ in range(3):
                other, change = changed_within(chance, form, 40)
                told = answer(judge_alike, one=form, other=other)
                self.assertEqual(told[0], "change")
                self.assertTrue(is_right(form, other, told), (form, other, told))
                self.assertIs(answer(alike_holds, one=form, other=other, thing=told), True)
                self.assertIs(alike_holds(form, other, ("change", change)), True)
                self.assertEqual(changed(form, told[1]), other)
                self.assertEqual(judge_alike(other, form)[0], "change")

    def test_changes_of_both_determinants(self):
        # Forms with no motions but the two that each form has: there are just two changes, one the other turned over.
        chance, seen = random.Random(107), set()
        for form in [((3, 1), (1, 5)), ((3, -1), (-1, 5)), ((5, 2), (2, 9)), ((8, 1, 2), (1, 13, 3), (2, 3, 18))]:
            for _ in range(20):
                one, _ = changed_within(chance, form, 40)
                other, change = changed_within(chance, one, 40)
                turned = tuple(tuple(-number for number in row) for row in change)
                self.assertIn(judge_alike(one, other), [("change", change), ("change", turned)])
                seen.add((len(form), plain_determinant(change)))
        self.assertEqual(len(seen), 4)

    def test_alike_to_itself(self):
        for form in some_forms():
            told = judge_alike(form, form)
            self.assertEqual(told[0], "change")
            self.assertTrue(is_right(form, form, told))
            self.assertIs(alike_holds(form, form, ("change", units(len(form)))), True)
            same = least_signs_by_search(form)
            self.assertIs(alike_holds(form, form, ("signs", same, same)), False)

    def test_slanted_both(self):
        chance = random.Random(104)
        for form in list(KINDS) + [BALLS, ((1, 0, 0), (0, 2, 0), (0, 0, 3)), ((7, 3), (3, 9))]:
            one, other = slanted(chance, form, 40)[0], slanted(chance, form, 40)[0]
            told = judge_alike(one, other)
            self.assertEqual(told[0], "change")
            self.assertTrue(is_right(one, other, told), (one, other, told))
            self.assertLessEqual(max(abs(number) for row in told[1] for number in row), 10 ** 4)

    def test_each_two(self):
        # For each two of many small forms a search for a change tells the same as the least signs.
        chance, seen = random.Random(105), set()
        for n in (1, 2, 3):
            forms = [form for form in small_forms() if len(form) == n]
            for one, other in chance.sample(list(itertools.product(forms, repeat=2)), {1: 9, 2: 250, 3: 350}[n]):
                told = judge_alike(one, other)
                self.assertTrue(is_right(one, other, told), (one, other, told))
                self.assertEqual(told[0] == "change", len(changes_by_search(one, other)) > 0)
                self.assertIs(alike_holds(one, other, told), True)
                seen.add((n, told[0]))
        self.assertEqual(len(seen), 6)

    def test_nearly_alike(self):
        # With the same determinant, with the same many steps of a size, or one within the other.
        for one, other in [(((1, 0), (0, 6)), ((2, 0), (0, 3))), (((1, 0), (0, 4)), ((2, 0), (0, 2))),
                           (((1, 0, 0), (0, 1, 0), (0, 0, 4)), ((1, 0, 0), (0, 2, 0), (0, 0, 2))),
                           (CUBE, ((2, 0, 0), (0, 2, 0), (0, 0, 2))), (TWELVE, BODY), (BALLS, ((4, 0, 0), (0, 1, 0), (0, 0, 1))),
                           (((2, 1), (1, 3)), ((1, 0), (0, 5))), (((1,),), ((4,),)), (((2, 1), (1, 2)), ((2, 0), (0, 2))),
                           (((2, 1, 0), (1, 3, 0), (0, 0, 1)), ((1, 0, 0), (0, 1, 0), (0, 0, 5)))]:
            told = judge_alike(one, other)
            self.assertEqual(told[0], "signs")
            self.assertTrue(is_right(one, other, told))
            self.assertIs(alike_holds(one, other, told), True)
            self.assertIs(alike_holds(other, one, told), False)
            self.assertIs(alike_holds(other, one, ("signs", told[2], told[1])), True)
            for change in [units(len(one)), plain_changed(units(len(one)), units(len(one)))]:
                self.assertIs(alike_holds(one, other, ("change", change)), False)
        self.assertEqual(many_by_size(BALLS, 20), many_by_size(TWELVE, 20))
        self.assertEqual(judge_alike(BALLS, TWELVE)[0], "change")

    def test_all_changes_are_accepted_and_no_other(self):
        numbers = {1: range(-3, 4), 2: range(-3, 4), 3: range(-1, 2)}
        for one, other in [(((2,),), ((2,),)), (SQUARE, ((1, 1), (1, 2))), (SIX, ((2, 1), (1, 2))), (SQUARE, SIX),
                           (((1, 0), (0, 2)), ((3, 2), (2, 2))), (CUBE, ((1, 0, 0), (0, 1, 1), (0, 1, 2)))]:
            n = len(one)
            rows = list(itertools.product(numbers[n], repeat=n))
            told = changes_by_search(one, other)
            for change in list(itertools.product(rows, repeat=n))[::1 if n < 3 else 11] + told:
                self.assertIs(alike_holds(one, other, ("change", change)), change in told)

    def test_any_values(self):
        for one, other in [(((3,),), ((3,),)), (((3,),), ((5,),)), (SIX, ((2, 1), (1, 2))), (SQUARE, SIX), (CUBE, CUBE),
                           (CUBE, TWELVE)]:
            things = variants(judge_alike(one, other))[:800] + [
                ("signs", least_signs(one), least_signs(other)), ("change", units(len(one))), ("change", [(1, 0), (0, 1)]),
                ("signs", signs(one), signs(other)), ("signs", least_signs(one)[::-1], least_signs(other)),
                ("signs", list(least_signs(one)), least_signs(other)), ("signs", least_signs(one)),
                ("change", tuple(map(list, units(len(one))))), ("change", ((10 ** 39,) * len(one),) * len(one))]
            for thing in ODD_VALUES + things:
                self.assertIs(alike_holds(one, other, thing), is_right(one, other, thing), thing)
            answer(alike_holds, one=one, other=other, thing=things[0])
        self.assertIs(alike_holds(SQUARE, SIX, ("signs", (1, 1, 2), (2, 2, 2))), True)
        self.assertIs(alike_holds(SQUARE, SIX, ("signs", (True, 1, 2), (2, 2, 2))), False)
        self.assertIs(alike_holds(SQUARE, SIX, ("signs", (1, 2, 1), (2, 2, 2))), False)
        self.assertIs(alike_holds(SQUARE, SQUARE, ("change", ((1, 0), (0, -1)))), True)
        self.assertIs(alike_holds(SQUARE, SQUARE, ("change", ((True, 0), (0, -1)))), False)
        self.assertIs(alike_holds(SQUARE, SQUARE, ("change", ((1, 0), (False, 1)))), False)


class ErrorsTest(unittest.TestCase):

    def test_bad_form(self):
        for thing in NO_FORMS + ODD_VALUES:
            for function in (signs, least_signs):
                self.assertIs(error_of(BadForm, function, thing), thing)
                self.assertIs(error_of(BadForm, function, form=thing), thing)
            for other in (None, ((1,),), SQUARE):
                self.assertIs(error_of(BadForm, judge_alike, thing, other), thing)
                self.assertIs(error_of(BadForm, judge_alike, other=other, one=thing), thing)
                self.assertIs(error_of(BadForm, alike_holds, thing, other, ("change", ((1,),))), thing)
            for form in (((1,),), SQUARE, CUBE):
                self.assertIs(error_of(BadForm, judge_alike, form, thing), thing)
                self.assertIs(error_of(BadForm, judge_alike, other=thing, one=form), thing)
                self.assertIs(error_of(BadForm, alike_holds, form, thing, None), thing)

    def test_another_n(self):
        for one, other in itertools.permutations((((1,),), SQUARE, CUBE), 2):
            self.assertIs(error_of(BadForm, judge_alike, one, other), other)
            self.assertIs(error_of(BadForm, alike_holds, one, other, ("signs", (1,), (2,))), other)


class QuickTest(unittest.TestCase):

    def test_quick(self):
        chance = random.Random(106)
        forms = [slanted(chance, form, 40)[0] for form in list(KINDS) + [BALLS, random_form(chance, 3, 40)]]
        for one in forms:
            for other in [one] + [form for form in forms if len(form) == len(one)][:2]:
                told = judge_alike(one, other)
                for call in [lambda: judge_alike(one, other), lambda: alike_holds(one, other, told),
                             lambda: least_signs(one)]:
                    before = time.perf_counter()
                    call()
                    self.assertLess(time.perf_counter() - before, 0.5)


if __name__ == "__main__":
    unittest.main()
