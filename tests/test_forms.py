"""Promises 1.1 and 1.2: tables, forms, steps and changes."""

import itertools
import random
import unittest
from fractions import Fraction

from nearsteps.errors import BadChange, BadForm, BadStep, BadTable
from nearsteps.forms import (
    back, changed, form_holds, is_change, is_form, is_table, judge_form, lean, led, size,
)
from odd_values import (
    ODD_VALUES, added, error_of, plain_changed, plain_determinant, plain_lean, strict,
)

UNITS = {1: ((1,),), 2: ((1, 0), (0, 1)), 3: ((1, 0, 0), (0, 1, 0), (0, 0, 1))}
FORMS = {1: ((7,),), 2: ((2, -1), (-1, 2)), 3: ((3, 1, -1), (1, 4, 2), (-1, 2, 5))}
NO_FORMS = {1: ((-7,),), 2: ((1, 2), (2, 1)), 3: ((1, 1, 0), (1, 1, 0), (0, 0, 1))}
CHANGES = {
    1: [((1,),), ((-1,),)],
    2: [((1, 0), (0, 1)), ((0, 1), (1, 0)), ((2, 1), (1, 1)), ((10 ** 4, 9999), (-1, -1))],
    3: [UNITS[3], ((0, 1, 0), (0, 0, 1), (1, 0, 0)), ((1, 2, 3), (0, -1, 5), (0, 0, 1)),
        ((2, 3, 5), (1, 2, 3), (0, 0, -1))],
}
NO_CHANGES = {
    1: [((0,),), ((2,),), ((-2,),)],
    2: [((1, 1), (1, 1)), ((2, 0), (0, 1)), ((1, 0), (0, -2)), ((0, 0), (0, 0))],
    3: [((1, 0, 0), (0, 1, 0), (1, 1, 0)), ((1, 0, 0), (0, 1, 0), (0, 0, 3)), ((0,) * 3,) * 3],
}
NO_TABLES = [
    (), ((),), [(1,)], ([1],), ((True,),), ((1, 0), (0, True)), ((1, 0), (False, 1)), ((1, 2), (3, 1)),
    ((1, 0),), ((1, 0), (0,)), ((1,), (0,)), ((1, 0), [0, 1]), ((1, "0"), ("0", 1)), ((1, None), (None, 1)),
    ((1, 0, 0), (0, 1, 0)), ((1, 2, 3), (2, 1, 4), (3, 5, 1)), tuple((0,) * 4 for _ in range(4)),
    None, 1, "((1,),)", {0: (1,)},
]


def no_steps(n):
    """Return values that are no steps of n integers."""
    right = tuple(range(1, n + 1))
    return [
        (), right + (0,), right[1:], list(right), (True,) + right[1:], right[:-1] + (False,),
        (None,) + right[1:], ("1",) + right[1:], (right,), None, 1, "1", {0: 1}, True,
    ]


def all_tables(n, most):
    """Return all tables of n rows whose integers are at most so much in size."""
    places = [(i, j) for i in range(n) for j in range(i + 1)]
    out = []
    for numbers in itertools.product(range(-most, most + 1), repeat=len(places)):
        told = dict(zip(places, numbers))
        out.append(tuple(tuple(told[max(i, j), min(i, j)] for j in range(n)) for i in range(n)))
    return out


def is_above(table):
    """Tell whether all pivots of a table are above 0 (another way to know a form)."""
    rows = [[Fraction(number) for number in row] for row in table]
    for k in range(len(rows)):
        if rows[k][k] <= 0:
            return False
        for i in range(k + 1, len(rows)):
            times = rows[i][k] / rows[k][k]
            rows[i] = [a - times * b for a, b in zip(rows[i], rows[k])]
    return True


class ExamplesTest(unittest.TestCase):

    def test_tables_and_forms(self):
        slant = ((2, 1), (1, 2))
        self.assertEqual(strict([
            is_table(((1, 2), (2, 1))), is_form(((1, 2), (2, 1))), judge_form(slant),
            judge_form(((0,),))[0], form_holds(((1, 1), (1, 1)), ('low', (2, -2))),
            size(slant, (1, -1)), lean(slant, (1, 0), (0, 1)),
        ]), strict([True, False, ('form',), 'low', True, 2, 1]))

    def test_changes(self):
        self.assertEqual(strict([
            is_change(2, ((1, 0), (1, -1))), led(2, ((1, 0), (1, -1)), (3, 2)),
            back(2, ((1, 0), (1, -1))), changed(((1, 0), (0, 3)), ((1, 0), (2, 1))),
        ]), strict([True, (5, -2), ((1, 0), (1, -1)), ((1, 2), (2, 7))]))

    def test_bool_is_no_integer(self):
        self.assertEqual(strict(error_of(BadStep, size, ((1,),), (True,))), strict((True,)))


class TablesTest(unittest.TestCase):

    def test_tables(self):
        for table in list(UNITS.values()) + list(FORMS.values()) + list(NO_FORMS.values()):
            self.assertIs(is_table(table), True)
            self.assertIs(is_table(thing=table), True)
        for table in [((0,),), ((10 ** 39,),), ((0, 0), (0, 0)), ((-1, 5), (5, -1)), ((0,) * 3,) * 3]:
            self.assertIs(is_table(table), True)

    def test_no_tables(self):
        for thing in NO_TABLES + ODD_VALUES:
            self.assertIs(is_table(thing), False, thing)
            self.assertIs(is_form(thing), False, thing)

    def test_forms_are_told_from_tables(self):
        for table in all_tables(1, 5) + all_tables(2, 4) + all_tables(3, 1):
            self.assertIs(is_table(table), True)
            self.assertIs(is_form(table), is_above(table), table)
            self.assertIs(is_form(thing=table), is_above(table))

    def test_forms_of_great_integers(self):
        great = 10 ** 38
        for most, n in itertools.product([1000, great], [1, 2, 3]):
            chance = random.Random(most + n)
            for _ in range(100):
                table = [[0] * n for _ in range(n)]
                for i, j in itertools.combinations_with_replacement(range(n), 2):
                    table[i][j] = table[j][i] = chance.randint(-most if i != j else 0, most)
                table = tuple(map(tuple, table))
                self.assertIs(is_form(table), is_above(table), table)
        self.assertIs(is_form(((great, great - 1), (great - 1, great))), True)
        self.assertIs(is_form(((great, great), (great, great))), False)
        self.assertIs(is_form(((great, great + 1), (great + 1, great))), False)

    def test_size_nought_and_below(self):
        for table in [((0,),), ((-1,),), ((0, 0), (0, 0)), ((1, 0), (0, 0)), ((0, 0), (0, 1)), ((1, 1), (1, 1)),
                      ((4, 6), (6, 9)), ((2, -1, -1), (-1, 2, -1), (-1, -1, 2)), ((0, 1), (1, 0)),
                      ((1, 0, 0), (0, 1, 0), (0, 0, 0)), ((1, 0, 0), (0, 1, 0), (0, 0, -1)),
                      ((-1, 0, 0), (0, -1, 0), (0, 0, 1)), ((0, 0, 0), (0, 1, 0), (0, 0, 1))]:
            self.assertIs(is_table(table), True)
            self.assertIs(is_form(table), False, table)
            self.assertEqual(judge_form(table)[0], "low")


class CertificatesTest(unittest.TestCase):

    def check_judged(self, table):
        told = judge_form(table)
        self.assertEqual(strict(told), strict(judge_form(table=table)))
        self.assertIs(form_holds(table, told), True)
        if is_above(table):
            self.assertEqual(strict(told), strict(("form",)))
            return
        word, step = told
        self.assertEqual((word, len(step)), ("low", len(table)))
        self.assertTrue(all(type(number) is int for number in step) and any(step))
        self.assertLessEqual(plain_lean(table, step, step), 0)
        self.assertIs(form_holds(table, ("form",)), False)

    def test_judged_small(self):
        for table in all_tables(1, 5) + all_tables(2, 4) + all_tables(3, 1):
            self.check_judged(table)

    def test_judged_up_to_the_limit(self):
        chance = random.Random(11)
        for _ in range(600):
            n = chance.choice([1, 2, 3])
            rows = [tuple(chance.randint(-15, 15) for _ in range(n)) for _ in range(n)]
            table = [[sum(a * b for a, b in zip(one, other)) for other in rows] for one in rows]
            at = chance.randrange(n)
            table[at][at] -= chance.randint(0, 30)
            table = tuple(map(tuple, table))
            self.check_judged(table)
            # What judge_form returned can be passed on within the limit for steps.
            if judge_form(table)[0] == "low":
                self.assertTrue(all(abs(number) <= 10 ** 7 for number in judge_form(table)[1]))
        for table in [((-1000,),), ((1000, 1000), (1000, 1000)), ((1000, -1000), (-1000, 999)),
                      ((1000, 999, 1000), (999, 1000, -1000), (1000, -1000, 1000))]:
            self.check_judged(table)

    def test_right_certificates(self):
        self.assertIs(form_holds(FORMS[3], ("form",)), True)
        self.assertIs(form_holds(table=FORMS[2], thing=("form",)), True)
        for table, step in [(((0,),), (1,)), (((0,),), (-5,)), (((-2,),), (10 ** 38,)), (((1, 1), (1, 1)), (-3, 3)),
                            (((1, 2), (2, 1)), (1, -1)), (((1, 2), (2, 1)), (1, -2)),
                            (((0, 0, 0), (0, 1, 0), (0, 0, 1)), (1, 0, 0)), (((0,) * 3,) * 3, (10 ** 39, -1, 7))]:
            self.assertLessEqual(plain_lean(table, step, step), 0)
            self.assertIs(form_holds(table, ("low", step)), True)
            self.assertIs(form_holds(table=table, thing=("low", step)), True)

    def test_each_low_step_is_accepted_and_no_other(self):
        for table in all_tables(2, 2):
            for step in itertools.product(range(-2, 3), repeat=2):
                right = any(step) and plain_lean(table, step, step) <= 0
                self.assertIs(form_holds(table, ("low", step)), right)

    def test_wrong_certificates(self):
        low = ((1, 2), (2, 1))
        for thing in [("form",), ("low", (1, 0)), ("low", (0, 0)), ("low", (1, 1)), ("low", [1, -1]), ["low", (1, -1)],
                      ("low", (1, -1), ()), ("low",), ("high", (1, -1)), ("Low", (1, -1)), ("low", (True, -1)),
                      ("low", (1, -1, 0)), ("low", (1,)), ("low", ((1, -1),)), ((1, -1), "low"), (1, -1), "low",
                      (["low"], (1, -1)), ({}, (1, -1)), ("low", "ab"), ("low", {0: 1, 1: -1}), ("low", (1, "-1"))]:
            self.assertIs(form_holds(low, thing), False, thing)
        for thing in [("low", (1, 0)), ("low", (0, 0)), ["form"], ("form", ()), ("form", "form"), "form", ("Form",),
                      ("form ",), (("form",),), {"form": 1}, True, 1]:
            self.assertIs(form_holds(FORMS[2], thing), False, thing)
        self.assertIs(form_holds(((0,),), ("low", (False,))), False)
        self.assertIs(form_holds(((0,),), ("low", (True,))), False)

    def test_any_values(self):
        for table in list(FORMS.values()) + list(NO_FORMS.values()):
            for thing in ODD_VALUES:
                right = thing == ("form",) and is_above(table)
                self.assertIs(form_holds(table, thing), right, thing)
                self.assertIs(form_holds(table, ("low", thing)), False, thing)
                self.assertIs(form_holds(table, ("form", thing)), False, thing)
                if thing != "low":
                    self.assertIs(form_holds(table, (thing, (1,) + (-1,) * (len(table) - 1))), False, thing)

    def test_errors(self):
        for thing in NO_TABLES:
            self.assertIs(error_of(BadTable, judge_form, thing), thing)
            self.assertIs(error_of(BadTable, judge_form, table=thing), thing)
            self.assertIs(error_of(BadTable, form_holds, thing, ("form",)), thing)
            self.assertIs(error_of(BadTable, form_holds, table=thing, thing=None), thing)


class LeanTest(unittest.TestCase):

    def test_ordinary(self):
        chance = random.Random(5)
        for n in (1, 2, 3):
            for most in (3, 10 ** 7, 10 ** 39):
                for _ in range(30):
                    one, other = (tuple(chance.randint(-most, most) for _ in range(n)) for _ in range(2))
                    form = FORMS[n]
                    told = plain_lean(form, one, other)
                    self.assertEqual(strict(lean(form, one, other)), strict(told))
                    self.assertEqual(strict(lean(form=form, one=one, other=other)), strict(told))
                    self.assertEqual(strict(lean(form, other, one)), strict(told))
                    self.assertEqual(strict(size(form, one)), strict(plain_lean(form, one, one)))
                    self.assertEqual(strict(size(form=form, step=one)), strict(lean(form, one, one)))

    def test_known(self):
        self.assertEqual([size(((1000,),), (10 ** 7,)), size(UNITS[2], (3, 4)), size(UNITS[3], (1, 2, -2))],
                         [10 ** 17, 25, 9])
        self.assertEqual(size(((1000, 999), (999, 1000)), (10 ** 7, -10 ** 7)), 2 * 10 ** 14)
        self.assertEqual([size(FORMS[n], (0,) * n) for n in (1, 2, 3)], [0, 0, 0])
        self.assertEqual([lean(FORMS[2], (1, 0), (1, 2)), lean(FORMS[3], (1, 0, 0), (0, 0, 1))], [0, -1])

    def test_bad_form(self):
        for thing in NO_TABLES + list(NO_FORMS.values()) + [((0,),), ((0, 0), (0, 0))]:
            self.assertIs(error_of(BadForm, lean, thing, (1,), (1,)), thing)
            self.assertIs(error_of(BadForm, lean, thing, None, None), thing)
            self.assertIs(error_of(BadForm, size, thing, (1,)), thing)
            self.assertIs(error_of(BadForm, size, form=thing, step=None), thing)

    def test_bad_step(self):
        for n, form in FORMS.items():
            right = (1,) * n
            for thing in no_steps(n):
                self.assertIs(error_of(BadStep, size, form, thing), thing)
                self.assertIs(error_of(BadStep, size, form=form, step=thing), thing)
                self.assertIs(error_of(BadStep, lean, form, thing, right), thing)
                self.assertIs(error_of(BadStep, lean, form, right, thing), thing)
                self.assertIs(error_of(BadStep, lean, form, thing, [None]), thing)
                self.assertIs(error_of(BadStep, lean, other=[None], one=thing, form=form), thing)


class ChangesTest(unittest.TestCase):

    def test_changes(self):
        for n in (1, 2, 3):
            for change in CHANGES[n]:
                self.assertIn(plain_determinant(change), (1, -1))
                self.assertIs(is_change(n, change), True)
                self.assertIs(is_change(n=n, thing=change), True)
                self.assertTrue(all(is_change(m, change) is False for m in (1, 2, 3) if m != n))
            for thing in NO_CHANGES[n]:
                self.assertNotIn(plain_determinant(thing), (1, -1))
                self.assertIs(is_change(n, thing), False)

    def test_all_small_squares(self):
        for n, most in [(1, 3), (2, 2), (3, 1)]:
            rows = list(itertools.product(range(-most, most + 1), repeat=n))
            for thing in itertools.product(rows, repeat=n):
                self.assertIs(is_change(n, thing), plain_determinant(thing) in (1, -1))

    def test_any_values(self):
        for n in (1, 2, 3):
            for thing in ODD_VALUES + [list(CHANGES[n][0]), tuple(map(list, CHANGES[n][0])), CHANGES[n][0] * 2]:
                right = n == 3 and thing == ((1, 0, 0), (0, 1, 0), (0, 1, 1))
                self.assertIs(is_change(n, thing), right, thing)
        self.assertIs(is_change(2, ((True, 0), (0, 1))), False)
        self.assertIs(is_change(1, ((True,),)), False)
        self.assertIs(is_change(2, ((10 ** 39, 1), (10 ** 39 - 1, 1))), True)

    def test_led_and_back(self):
        chance = random.Random(7)
        for n in (1, 2, 3):
            for change in CHANGES[n] + [random_change(chance, n) for _ in range(60)]:
                away = back(n, change)
                self.assertEqual(strict(away), strict(back(n=n, change=change)))
                self.assertIs(is_change(n, away), True)
                self.assertEqual(strict(back(n, away)), strict(change))
                for most in (3, 10 ** 7):
                    step = tuple(chance.randint(-most, most) for _ in range(n))
                    there = led(n, change, step)
                    told = tuple(sum(step[i] * change[i][j] for i in range(n)) for j in range(n))
                    self.assertEqual(strict(there), strict(told))
                    self.assertEqual(strict(led(n=n, change=change, step=step)), strict(told))
                    self.assertEqual(strict(led(n, away, there)), strict(step))
                    self.assertEqual(strict(led(n, change, led(n, away, step))), strict(step))

    def test_changed(self):
        chance = random.Random(8)
        for n in (1, 2, 3):
            for change in CHANGES[n] + [random_change(chance, n) for _ in range(60)]:
                form = chance.choice([UNITS[n], FORMS[n]])
                told = plain_changed(form, change)
                other = changed(form, change)
                self.assertEqual(strict(other), strict(told))
                self.assertEqual(strict(changed(form=form, change=change)), strict(told))
                self.assertIs(is_form(other), True)
                self.assertEqual(strict(changed(other, back(n, change))), strict(form))
                one, two = (tuple(chance.randint(-9, 9) for _ in range(n)) for _ in range(2))
                self.assertEqual(lean(other, one, two), lean(form, led(n, change, one), led(n, change, two)))

    def test_errors(self):
        for n in (1, 2, 3):
            right = CHANGES[n][-1]
            others = [list(right), right + right, right[1:], None, 1, "x", ((True,) + right[0][1:],) + right[1:]]
            others += [CHANGES[m][0] for m in (1, 2, 3) if m != n]
            for thing in NO_CHANGES[n] + others:
                self.assertIs(is_change(n, thing), False)
                self.assertIs(error_of(BadChange, changed, FORMS[n], thing), thing)
                self.assertIs(error_of(BadChange, led, n, thing, (1,) * n), thing)
                self.assertIs(error_of(BadChange, led, n, thing, None), thing)
                self.assertIs(error_of(BadChange, led, n=n, change=thing, step=None), thing)
                self.assertIs(error_of(BadChange, back, n, thing), thing)
                self.assertIs(error_of(BadChange, back, n=n, change=thing), thing)
            for thing in no_steps(n):
                self.assertIs(error_of(BadStep, led, n, right, thing), thing)
            for thing in NO_TABLES + list(NO_FORMS.values()):
                self.assertIs(error_of(BadForm, changed, thing, right), thing)
                self.assertIs(error_of(BadForm, changed, form=thing, change=None), thing)


def random_change(chance, n):
    """Return a change whose integers are at most 10 ** 4 in size."""
    change = tuple(tuple(int(i == j) for j in range(n)) for i in range(n))
    if n == 1:
        return (chance.choice([(1,), (-1,)]),)
    for _ in range(chance.randint(1, 30)):
        to, what = chance.sample(range(n), 2)
        more = added(n, to, what, chance.choice([-2, -1, 1, 2]))
        after = tuple(tuple(sum(more[i][k] * change[k][j] for k in range(n)) for j in range(n)) for i in range(n))
        if max(abs(number) for row in after for number in row) > 10 ** 4:
            break
        change = after
    rows = list(change)
    if chance.random() < 0.5:
        rows[0], rows[1] = rows[1], rows[0]
    return tuple(rows)


if __name__ == "__main__":
    unittest.main()
