"""Rows that lie as well as possible to one another, however slanted the form is."""

from nearsteps.rows import determinant, lean_by, leans_by, noughts_but, size_by


def obtuse_rows(form):
    """Return n + 1 steps with the sum noughts, no two of which have a lean above 0."""
    rows = first_rows(len(form))
    pair = sharpest_pair(form, rows)
    while pair is not None:
        rows = turned(rows, pair)
        pair = sharpest_pair(form, rows)
    return rows


def first_rows(n):
    """Return the n plain steps and the opposite of their sum."""
    plain = tuple([noughts_but(n, at, 1) for at in range(n)])
    return plain + ((-1,) * n,)


def sharpest_pair(form, rows):
    """Return the positions of the two rows with the greatest lean, None if none is above 0."""
    best, found = 0, None
    for j, other in enumerate(rows):
        for i, one in enumerate(rows[:j]):
            here = lean_by(form, one, other)
            if here > best:
                best, found = here, (i, j)
    return found


def turned(rows, pair):
    """Return the rows with the first one of a pair turned to its opposite (E. Selling)."""
    # The sum stays noughts, and the sizes together become less whenever the pair has
    # a lean above 0; as they are integers above 0, this comes to an end.
    i, j = pair
    turn = rows[i]
    times = 2 // (len(turn) - 1)
    out = []
    for at, row in enumerate(rows):
        if at == i:
            out.append(tuple([-number for number in row]))
        elif at == j:
            out.append(row)
        else:
            out.append(tuple([number + times * more for number, more in zip(row, turn)]))
    return tuple(out)


def class_sums(rows):
    """Return one of the two opposite sums of some obtuse rows for each class but noughts'."""
    sums = [(0,) * len(rows[0])]
    for row in rows[:-1]:
        sums = sums + [tuple([a + b for a, b in zip(row, one)]) for one in sums]
    return sums[1:]


def short_rows(form):
    """Return the rows of a change: a shortest step first, then a shortest one beside the first, and so on."""
    # Up to n = 3 the shortest steps beside those before make up a change, and each of
    # them is the only shortest one of its class but for its opposite, so that it is
    # one of the sums.
    sums = class_sums(obtuse_rows(form))
    rows = ()
    for step in sorted(sums, key=lambda one: size_by(form, one)):
        more = rows + (step,)
        if determinant(leans_by(form, more)) > 0:
            rows = more
    return rows
