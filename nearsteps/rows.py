"""Sums over rows of integers; nothing is checked here."""


def without(rows, down, across):
    """Return the rows less the row `down` and the column `across`."""
    kept = rows[:down] + rows[down + 1:]
    return tuple([row[:across] + row[across + 1:] for row in kept])


def signed(place, number):
    """Return the number, or its opposite at an odd place."""
    return -number if place & 1 else number


def determinant(rows):
    """Return the determinant of n rows of n integers."""
    if len(rows) == 0:
        return 1
    total = 0
    for at, number in enumerate(rows[0]):
        total += signed(at, number * determinant(without(rows, 0, at)))
    return total


def adjoint(rows):
    """Return the rows whose product with the rows is the determinant, each way."""
    places = range(len(rows))
    return tuple([
        tuple([signed(i + j, determinant(without(rows, j, i))) for j in places])
        for i in places
    ])


def lean_by(table, one, other):
    """Return the lean of two steps by a table."""
    total = 0
    for row, number in zip(table, one):
        for entry, factor in zip(row, other):
            total += entry * number * factor
    return total


def size_by(table, step):
    """Return the size of a step by a table."""
    return lean_by(table, step, step)


def leans_by(table, steps):
    """Return the table of the leans of each two of the steps."""
    return tuple([tuple([lean_by(table, one, other) for other in steps]) for one in steps])


def led_by(rows, numbers):
    """Return the sum of the rows, each times the number at its position."""
    columns = range(len(rows[0]))
    return tuple([sum([number * row[at] for number, row in zip(numbers, rows)]) for at in columns])


def noughts_but(n, at, number):
    """Return the step of n integers that are zeros but for the number at one position."""
    return tuple([number if here == at else 0 for here in range(n)])


def noughts_of(n):
    """Return the step of n zeros."""
    return (0,) * n


def added(one, other):
    """Return the sum of two steps."""
    return tuple([number + more for number, more in zip(one, other)])


def added_times(one, other, times):
    """Return the sum of a step and another one times a number."""
    return tuple([number + times * more for number, more in zip(one, other)])


def opposite(step):
    """Return the opposite of a step."""
    return tuple([-number for number in step])
