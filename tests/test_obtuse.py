"""The rows by which short steps are found, whose properties the search relies on."""

import itertools
import random
import unittest

from nearsteps.obtuse import class_sums, obtuse_rows, short_rows
from odd_values import plain_determinant, plain_lean
from searches import LINES, least_by_search, random_form, slanted


def some_forms():
    """Return easy forms, random ones and slanted ones."""
    chance = random.Random(31)
    easy = list(LINES) + [random_form(chance, n, 200) for n in (1, 2, 3) for _ in range(40)]
    return easy + [slanted(chance, form, 200)[0] for form in easy]


class ObtuseTest(unittest.TestCase):

    def test_obtuse_rows(self):
        for form in some_forms():
            rows = obtuse_rows(form)
            self.assertEqual(len(rows), len(form) + 1)
            self.assertEqual([sum(column) for column in zip(*rows)], [0] * len(form))
            self.assertIn(plain_determinant(rows[:-1]), (1, -1))
            for one, other in itertools.combinations(rows, 2):
                self.assertLessEqual(plain_lean(form, one, other), 0)

    def test_class_sums(self):
        for form in some_forms():
            sums = class_sums(obtuse_rows(form))
            classes = {tuple(number % 2 for number in step) for step in sums}
            self.assertEqual((len(sums), len(classes)), (2 ** len(form) - 1,) * 2)
            self.assertNotIn((0,) * len(form), classes)

    def test_short_rows(self):
        for form in some_forms():
            rows = short_rows(form)
            self.assertEqual(len(rows), len(form))
            self.assertIn(plain_determinant(rows), (1, -1))
            sizes = [plain_lean(form, row, row) for row in rows]
            self.assertEqual(sizes, sorted(sizes))
            self.assertEqual(sizes[0], least_by_search(form))
            # No sum with earlier rows makes a row shorter.
            for signs in itertools.product((-1, 0, 1), repeat=len(rows)):
                last = max([at for at, sign in enumerate(signs) if sign], default=None)
                if last is not None:
                    step = tuple(sum(sign * row[at] for sign, row in zip(signs, rows)) for at in range(len(form)))
                    self.assertGreaterEqual(plain_lean(form, step, step), sizes[last])


if __name__ == "__main__":
    unittest.main()
