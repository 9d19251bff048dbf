"""Promises 11.1 and 11.2: words of lots, and their leaders."""

import itertools
import random
import time
import unittest

from nearsteps.coarse import index, nearest_coarse
from nearsteps.errors import BadCoarse, BadForm, BadStep
from nearsteps.words import judge_same, leaders, order_of, same_holds, sum_of, word_of, words
from odd_values import NO_FORMS, ODD_VALUES, answer, error_of, is_plain_step, plain_determinant, strict, variants
from searches import SIX, TWELVE, random_form, slanted
from wide_searches import (
    CUBE, NO_TABLES, SQUARE, TABLES, combined, is_coarse_place, kinds_of_forms, leaders_by_search, less, lot_key,
    random_coarse, units,
)

PAIR = ((1, 1), (1, -1))
# With indices up to the greatest one.
GREAT = {
    1: [((6,),), ((-5,),)],
    2: [((6, 4), (-6, 6)), ((6, 0), (0, -6)), ((6, 6), (-4, 6)), ((5, 0), (1, 6))],
    3: [((6, 0, 0), (0, 5, 0), (0, 0, 2)), ((4, 0, 0), (0, 3, 0), (0, 0, 5)), ((3, 1, 1), (1, 4, -1), (0, 2, 5)),
        ((2, 6, 5), (6, -1, 2), (0, 0, 1)), ((0, 0, 6), (2, 0, 0), (0, -5, 0))],
}


def some_tables(chance, most=60):
    found = [coarse for n in (1, 2, 3) for coarse in TABLES[n] + GREAT[n]]
    found += [random_coarse(chance, n, 6, most) for n in (2, 3) for _ in range(8)]
    return [coarse for coarse in found if abs(plain_determinant(coarse)) <= most]


def first_of_lots(coarse):
    """Return the first place from 0 on of each lot, by a look at all places of a box in their order."""
    # Going by the index along one number leads back to the lot, so that the first
    # place of each lot is in this box.
    many, found = abs(plain_determinant(coarse)), {}
    for place in itertools.product(range(many), repeat=len(coarse)):
        key = lot_key(coarse, place)
        if key not in found:
            found[key] = place
            if len(found) == many:
                break
    return found


def is_right(coarse, one, other, thing):
    """Tell whether a certificate for two places is right, straight from the words of the document."""
    n = len(coarse)
    if type(thing) is not tuple or not thing:
        return False
    if thing[0] == "same" and len(thing) == 2:
        return is_plain_step(n, thing[1]) and combined(coarse, thing[1]) == less(one, other)
    if thing[0] != "words" or len(thing) != 3:
        return False
    found = first_of_lots(coarse)
    told = (found[lot_key(coarse, one)], found[lot_key(coarse, other)])
    return strict(thing[1:]) == strict(told) and told[0] != told[1]


def some_places(chance, n):
    places = [tuple(chance.randint(-most, most) for _ in range(n)) for most in (2, 9, 1000)]
    return places + [(0,) * n, (-1,) * n, (1000, -1000, 999)[:n]]


class ExamplesTest(unittest.TestCase):

    def test_words(self):
        pair = ((1, 1), (1, -1))
        self.assertEqual(strict([
            words(2, pair), word_of(2, pair, (3, -2)), word_of(2, ((2, 1), (0, 3)), (-1, 0)), order_of(2, pair, (0, 1)),
            sum_of(2, ((3, 0), (0, 1)), (2, 0), (2, 0)), judge_same(2, pair, (1, 1), (0, 0)),
        ]), strict([((0, 0), (0, 1)), (0, 1), (1, 1), 2, (1, 0), ('same', (1, 0))]))

    def test_leaders(self):
        pair, plain = ((1, 1), (1, -1)), ((1, 0), (0, 1))
        self.assertEqual(strict([
            judge_same(2, pair, (1, 0), (0, 0)), same_holds(2, pair, (2, 0), (0, 0), ('same', (1, 1))),
            leaders(plain, pair, (0, 1)), leaders(plain, ((4, 0), (0, 1)), (3, 0)),
        ]), strict([('words', (0, 1), (0, 0)), True, ((-1, 0), (0, -1), (0, 1), (1, 0)), ((-1, 0),)]))


class WordsTest(unittest.TestCase):

    def test_words(self):
        for coarse in some_tables(random.Random(151)):
            n = len(coarse)
            told = answer(words, n=n, coarse=coarse)
            self.assertEqual(strict(told), strict(tuple(sorted(first_of_lots(coarse).values()))), coarse)
            self.assertEqual(len(told), index(n, coarse))
            self.assertEqual(told[0], (0,) * n)

    def test_word_of(self):
        chance = random.Random(152)
        for coarse in some_tables(chance):
            n, found = len(coarse), first_of_lots(coarse)
            for place in some_places(chance, n):
                told = answer(word_of, n=n, coarse=coarse, place=place)
                self.assertEqual(strict(told), strict(found[lot_key(coarse, place)]), (coarse, place))
                self.assertTrue(is_coarse_place(coarse, less(place, told)))
                self.assertEqual(word_of(n, coarse, told), told)

    def test_known(self):
        self.assertEqual([word_of(1, ((-3,),), (number,)) for number in (-4, -3, -1, 0, 2, 3, 1000)],
                         [(2,), (0,), (2,), (0,), (2,), (0,), (1,)])
        self.assertEqual(words(2, ((6, 4), (-6, 6))), tuple(itertools.product(range(6), range(10))))
        self.assertEqual(words(2, ((2, 1), (0, 3))), ((0, 0), (0, 1), (0, 2), (1, 0), (1, 1), (1, 2)))
        self.assertEqual(words(3, ((0, 0, 6), (2, 0, 0), (0, -5, 0))), tuple(itertools.product(range(2), range(5), range(6))))
        self.assertEqual(words(3, units(3)), ((0, 0, 0),))

    def test_other_rows_of_the_same_coarse_places(self):
        chance = random.Random(153)
        for coarse in some_tables(chance):
            n = len(coarse)
            others = [coarse[::-1], tuple(tuple(-number for number in row) for row in coarse)]
            if n > 1:
                others.append((tuple(a - b for a, b in zip(coarse[0], coarse[-1])),) + coarse[1:])
            for other in others:
                self.assertEqual(words(n, other), words(n, coarse))
                for place in some_places(chance, n)[:3]:
                    self.assertEqual(word_of(n, other, place), word_of(n, coarse, place))

    def test_sums(self):
        chance = random.Random(154)
        for coarse in some_tables(chance):
            n, found = len(coarse), first_of_lots(coarse)
            told = sorted(found.values())
            for one, other in [(chance.choice(told), chance.choice(told)) for _ in range(6)]:
                after = answer(sum_of, n=n, coarse=coarse, one=one, other=other)
                self.assertEqual(strict(after), strict(found[lot_key(coarse, tuple(a + b for a, b in zip(one, other)))]))
                self.assertEqual(sum_of(n, coarse, other, one), after)
                self.assertEqual(sum_of(n, coarse, one, (0,) * n), one)
                self.assertEqual(sum_of(n, coarse, one, word_of(n, coarse, tuple(-a for a in one))), (0,) * n)

    def test_orders(self):
        chance = random.Random(155)
        for coarse in some_tables(chance):
            n = len(coarse)
            told = words(n, coarse)
            for word in told[::max(1, len(told) // 8)]:
                times = next(k for k in range(1, 10 ** 4) if is_coarse_place(coarse, tuple(k * a for a in word)))
                self.assertEqual(strict(answer(order_of, n=n, coarse=coarse, word=word)), strict(times))
                self.assertEqual(index(n, coarse) % times, 0)
            self.assertEqual(order_of(n, coarse, (0,) * n), 1)
        self.assertEqual([order_of(1, ((6,),), (k,)) for k in range(6)], [1, 6, 3, 2, 3, 6])
        self.assertEqual(order_of(2, ((6, 4), (-6, 6)), (1, 0)), 30)
        self.assertEqual(order_of(2, ((6, 4), (-6, 6)), (0, 4)), 5)
        self.assertEqual(order_of(3, ((0, 0, 6), (2, 0, 0), (0, -5, 0)), (1, 1, 1)), 30)


class SameTest(unittest.TestCase):

    def test_judged(self):
        chance, seen = random.Random(156), set()
        for coarse in some_tables(chance, 30)[::2]:
            n = len(coarse)
            for place in some_places(chance, n)[:4]:
                near = tuple(a + b for a, b in zip(place, combined(coarse, tuple(chance.randint(-9, 9) for _ in range(n)))))
                for other in [near, place, some_places(chance, n)[0]]:
                    told = judge_same(n, coarse, place, other)
                    self.assertTrue(is_right(coarse, place, other, told), (coarse, place, other, told))
                    self.assertEqual(told[0] == "same", is_coarse_place(coarse, less(place, other)))
                    self.assertIs(same_holds(n, coarse, place, other, told), True)
                    seen.add((n, told[0]))
            answer(judge_same, n=n, coarse=coarse, one=place, other=other)
            answer(same_holds, n=n, coarse=coarse, one=place, other=other, thing=told)
        self.assertEqual(len(seen), 6)

    def test_known(self):
        self.assertEqual(judge_same(1, ((-6,),), (7,), (1,)), ("same", (-1,)))
        self.assertEqual(judge_same(1, ((-6,),), (7,), (2,)), ("words", (1,), (2,)))
        self.assertEqual(judge_same(2, PAIR, (1000, -1000), (-1000, 1000)), ("same", (0, 2000)))
        self.assertEqual(judge_same(2, PAIR, (0, -1), (0, 0)), ("words", (0, 1), (0, 0)))

    def test_each_step_and_each_two_words(self):
        for coarse, one, other in [(((3,),), (4,), (-2,)), (((3,),), (4,), (0,)), (PAIR, (1, 2), (0, 1)), (PAIR, (1, 1), (0, 1)),
                                   (((2, 1), (0, 3)), (4, 5), (2, 1)), (((2, 1), (0, 3)), (4, 5), (1, 1))]:
            n = len(coarse)
            for step in itertools.product(range(-3, 4), repeat=n):
                self.assertIs(same_holds(n, coarse, one, other, ("same", step)), is_right(coarse, one, other, ("same", step)))
            for pair in itertools.product(itertools.product(range(-1, 4), repeat=n), repeat=2):
                thing = ("words",) + pair
                self.assertIs(same_holds(n, coarse, one, other, thing), is_right(coarse, one, other, thing))

    def test_any_values(self):
        for coarse, one, other in [(((3,),), (4,), (-2,)), (((3,),), (4,), (0,)), (PAIR, (1, 1), (0, 0)), (PAIR, (1, 0), (0, 0)),
                                   (((2, 0, 0), (0, 2, 0), (0, 0, 2)), (1, 2, 3), (0, 0, 0))]:
            n = len(coarse)
            things = variants(judge_same(n, coarse, one, other)) + variants(("same", less(one, other)))
            for thing in ODD_VALUES + things:
                self.assertIs(answer(same_holds, n=n, coarse=coarse, one=one, other=other, thing=thing),
                              is_right(coarse, one, other, thing), thing)
        self.assertIs(same_holds(2, PAIR, (1, 1), (0, 0), ("same", (True, 0))), False)
        self.assertIs(same_holds(2, PAIR, (1, 1), (0, 0), ("same", [1, 0])), False)
        self.assertIs(same_holds(2, PAIR, (1, 1), (0, 0), ("words", (0, 0), (0, 0))), False)
        self.assertIs(same_holds(2, PAIR, (1, 0), (0, 0), ("words", (0, True), (0, 0))), False)
        self.assertIs(same_holds(2, PAIR, (1, 0), (0, 0), ("words", (1, 0), (0, 0))), False)
        self.assertIs(same_holds(2, PAIR, (1, 0), (0, 0), ("words", (0, 0), (0, 1))), False)


class LeadersTest(unittest.TestCase):

    def test_leaders(self):
        chance, seen = random.Random(157), set()
        forms = kinds_of_forms(chance, 20, 2) + [((1, 4), (4, 17))]
        for form in forms:
            n = len(form)
            for coarse in chance.sample([one for one in TABLES[n] if abs(plain_determinant(one)) <= 30], 2):
                told = words(n, coarse)
                for word in told[::max(1, len(told) // 5)]:
                    steps = answer(leaders, form=form, coarse=coarse, word=word)
                    self.assertEqual(strict(steps), strict(tuple(leaders_by_search(form, coarse, steps[0]))))
                    self.assertTrue(all(word_of(n, coarse, step) == word for step in steps))
                    self.assertTrue(all((0,) * n in nearest_coarse(form, coarse, (step, 1)) for step in steps))
                    place = tuple(a + b for a, b in zip(word, combined(coarse, (3, -2, 5)[:n])))
                    self.assertEqual(steps, tuple(sorted(
                        less(place, end) for end in nearest_coarse(form, coarse, (place, 1)))))
                    seen.add((n, len(steps)))
                self.assertEqual(leaders(form, coarse, (0,) * n), ((0,) * n,))
        self.assertLessEqual({(1, 1), (1, 2), (2, 1), (2, 2), (2, 4), (3, 1), (3, 2), (3, 4)}, seen)

    def test_known(self):
        self.assertEqual([leaders(((1,),), ((6,),), (k,)) for k in range(6)],
                         [((0,),), ((1,),), ((2,),), ((-3,), (3,)), ((-2,),), ((-1,),)])
        self.assertEqual(leaders(CUBE, ((2, 0, 0), (0, 2, 0), (0, 0, 2)), (1, 1, 1)), tuple(itertools.product((-1, 1), repeat=3)))
        self.assertEqual(leaders(SIX, ((2, 1), (1, 2)), (0, 1)), ((-1, -1), (0, 1), (1, 0)))

    def test_a_place_is_a_leader_exactly_if_noughts_is_nearest(self):
        for form, coarse in [(((2,),), ((5,),)), (SQUARE, ((2, 1), (0, 3))), (SIX, ((2, 0), (0, 2))),
                             (TWELVE, ((2, 0, 0), (0, 1, 1), (0, 1, -1)))]:
            n = len(form)
            for place in itertools.product(range(-3, 4), repeat=n):
                told = place in leaders(form, coarse, word_of(n, coarse, place))
                self.assertEqual(told, (0,) * n in nearest_coarse(form, coarse, (place, 1)))


class ErrorsTest(unittest.TestCase):

    def test_bad_coarse(self):
        for n in (1, 2, 3):
            zero, calls = (0,) * n, []
            for thing in NO_TABLES[n] + ODD_VALUES:
                if thing in TABLES[n] or is_table_of(n, thing):
                    continue
                for place in (zero, None, (True,) * n):
                    calls = [(word_of, (n, thing, place)), (order_of, (n, thing, place)), (sum_of, (n, thing, place, zero)),
                             (judge_same, (n, thing, zero, place)), (same_holds, (n, thing, place, place, ("same", zero))),
                             (words, (n, thing)), (leaders, ((((3,),), SIX, TWELVE)[n - 1], thing, place))]
                    for function, arguments in calls:
                        self.assertIs(error_of(BadCoarse, function, *arguments), thing)
                self.assertIs(error_of(BadCoarse, words, coarse=thing, n=n), thing)
                self.assertIs(error_of(BadCoarse, word_of, place=None, coarse=thing, n=n), thing)

    def test_bad_step(self):
        for n in (1, 2, 3):
            coarse, zero = TABLES[n][-1], (0,) * n
            for thing in ODD_VALUES + variants((3, 0, 1)[:n]):
                if is_plain_step(n, thing):
                    continue
                self.assertIs(error_of(BadStep, word_of, n, coarse, thing), thing)
                for function in (judge_same, sum_of):
                    self.assertIs(error_of(BadStep, function, n, coarse, thing, zero), thing)
                    self.assertIs(error_of(BadStep, function, n, coarse, zero, thing), thing)
                    self.assertIs(error_of(BadStep, function, other=(None,), one=thing, coarse=coarse, n=n), thing)
                self.assertIs(error_of(BadStep, same_holds, n, coarse, thing, None, ("same", zero)), thing)
                self.assertIs(error_of(BadStep, same_holds, n, coarse, zero, thing, None), thing)
                self.assertIs(error_of(BadStep, order_of, n, coarse, thing), thing)
                self.assertIs(error_of(BadStep, leaders, (((3,),), SIX, TWELVE)[n - 1], coarse, thing), thing)

    def test_no_words(self):
        for n, coarse in [(1, ((3,),)), (2, PAIR), (2, ((2, 1), (0, 3))), (3, ((2, 0, 0), (0, 2, 0), (0, 0, 2)))]:
            form, zero, told = (((3,),), SIX, TWELVE)[n - 1], (0,) * n, words(n, coarse)
            for place in itertools.product(range(-2, 5), repeat=n):
                if place in told:
                    self.assertEqual(sum_of(n, coarse, place, zero), place)
                    continue
                self.assertIs(error_of(BadStep, order_of, n, coarse, place), place)
                self.assertIs(error_of(BadStep, sum_of, n, coarse, place, (None,)), place)
                self.assertIs(error_of(BadStep, sum_of, n, coarse, zero, place), place)
                self.assertIs(error_of(BadStep, leaders, form, coarse, place), place)

    def test_bad_form(self):
        for thing in NO_FORMS + ODD_VALUES:
            for coarse, word in [(None, None), (((1,),), (0,)), (((0,),), (True,))]:
                self.assertIs(error_of(BadForm, leaders, thing, coarse, word), thing)
                self.assertIs(error_of(BadForm, leaders, word=word, coarse=coarse, form=thing), thing)


def is_table_of(n, thing):
    """Tell whether a value is a coarse table for n."""
    if type(thing) is not tuple or len(thing) != n or not all(is_plain_step(n, row) for row in thing):
        return False
    return plain_determinant(thing) != 0


class QuickTest(unittest.TestCase):

    def test_quick(self):
        chance = random.Random(158)
        for coarse in some_tables(chance):
            n = len(coarse)
            form = slanted(chance, random_form(chance, n, 20), 20)[0]
            told = words(n, coarse)
            word, place = told[-1], (-1000, 1000, 999)[:n]
            calls = [lambda: words(n, coarse), lambda: word_of(n, coarse, place), lambda: order_of(n, coarse, word),
                     lambda: judge_same(n, coarse, place, word), lambda: leaders(form, coarse, word)]
            for call in calls:
                before = time.perf_counter()
                call()
                self.assertLess(time.perf_counter() - before, 0.5)


if __name__ == "__main__":
    unittest.main()
