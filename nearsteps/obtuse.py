"""Rows that lie as well as possible to one another, however slanted the form is."""

from nearsteps.rows import (
    added, added_times, determinant, lean_by, leans_by, led_by, noughts_but, noughts_of, opposite, size_by,
)


def obtuse_rows(form):
    """Return n + 1 steps with the sum noughts, no two of which have a lean above 0."""
    rows = first_rows(len(form))
    pair = sharpest_pair(form, rows)
    while pair is not None:
        rows = turned(rows, pair)
        pair = sharpest_pair(form, rows)
    return rows


def first_rows(n):
    """Return the n plain steps and the opposite of their sum."""
    plain = tuple([noughts_but(n, at, 1) for at in range(n)])
    return plain + ((-1,) * n,)


def sharpest_pair(form, rows):
    """Return the positions of the two rows with the greatest lean, None if none is above 0."""
    best, found = 0, None
    for j, other in enumerate(rows):
        for i, one in enumerate(rows[:j]):
            here = lean_by(form, one, other)
            if here > best:
                best, found = here, (i, j)
    return found


def turned(rows, pair):
    """Return the rows with the first one of a pair turned to its opposite (E. Selling)."""
    # The sum stays noughts, and the sizes together become less whenever the pair has
    # a lean above 0; as they are integers above 0, this comes to an end.
    i, j = pair
    turn = rows[i]
    times = 2 // (len(turn) - 1)
    out = []
    for at, row in enumerate(rows):
        if at == i:
            out.append(opposite(row))
        elif at == j:
            out.append(row)
        else:
            out.append(added_times(row, turn, times))
    return tuple(out)


def class_sums(rows):
    """Return one of the two opposite sums of some obtuse rows for each class but noughts'."""
    sums = [noughts_of(len(rows[0]))]
    for row in rows[:-1]:
        sums = sums + [added(row, one) for one in sums]
    return sums[1:]


def short_rows(form):
    """Return the rows of a change: a shortest step first, then a shortest one beside the first, and so on."""
    # Up to n = 3 the shortest steps beside those before make up a change, and each of
    # them is the only shortest one of its class but for its opposite, so that it is
    # one of the sums.
    sums = class_sums(obtuse_rows(form))
    return independent(form, sorted(sums, key=lambda one: size_by(form, one)))


def independent(form, steps):
    """Return the steps less each that is a sum of those before it, each times a fraction."""
    kept = ()
    for step in steps:
        more = kept + (step,)
        if len(more) <= len(form) and determinant(leans_by(form, more)) > 0:
            kept = more
    return kept


def shortest_in_classes(form, rows):
    """Return all steps that are among the shortest of their class, noughts too, by obtuse rows."""
    # The size of a sum of the rows, each times a number, adds up over each two rows: their
    # lean without its sign, times the square of the difference of their numbers. So the
    # sum is among the shortest of its class exactly if the numbers of each two rows with
    # a lean below 0 differ by at most 1. Of numbers that differ by the same, as the rows
    # have the sum noughts, those are taken whose first one is 0. Any two rows are joined
    # by at most n leans below 0, so that no number is more than n off.
    n = len(form)
    leans = leans_by(form, rows)
    found = [(0,)]
    for at in range(1, n + 1):
        tried = [numbers + (number,) for numbers in found for number in range(-n, n + 1)]
        found = [numbers for numbers in tried if differ_little(leans[at], numbers)]
    return [led_by(rows, numbers) for numbers in found]


def differ_little(leans, numbers):
    """Tell whether the last number is at most 1 off each number where the lean is below 0."""
    return all([lean == 0 or abs(numbers[-1] - number) <= 1 for lean, number in zip(leans, numbers[:-1])])
