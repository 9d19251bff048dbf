"""Values of all kinds that stand in wrong places, and a check that counts kinds too."""

import copy


def nested(deep):
    """Return a tuple in a tuple in a tuple, and so on."""
    thing = ()
    for _ in range(deep):
        thing = (thing,)
    return thing


ODD_VALUES = [
    None, True, False, 0, 1, -1, 2, 3, 10 ** 39, -(10 ** 39), "", "form", "low", "(1,)", "x" * 800,
    (), [], {}, (None,), (True,), (False,), ("1",), ("form",), ["form"], ("low",), ("low", None),
    ("form", "form"), ("FORM",), (b"form",), ((),), [()], ([],), [[]], ({},), {0: 1}, {"form": True},
    (((1,),), ((1,),)), ([1],), [(1,)], [[1]], ((True,),), ((None,),), (("1",),), ((1, 0),),
    ((1,), (0,)), ((1, 0), (0,)), ((1, 0), [0, 1]), [(1, 0), (0, 1)], ((True, 0), (0, True)),
    ((1, 0), (False, 1)), ((1, 2), (3, 4)), ((1, 0), (0, 1), (0, 0)), ((1, 0, 0), (0, 1, 0)),
    ((1, 0, 0), (0, 1, 0), (0, 0, True)), ((1, 0, 0), (0, 1, 0), (0, 1, 1)), ((1, 0, 0), None, (0, 0, 1)),
    tuple(tuple(int(i == j) for j in range(4)) for i in range(4)), tuple(range(2000)),
    nested(8), [nested(7)], {"a": [{"b": (1, [2, {"c": ((),)}])}]},
]


def strict(thing):
    """Return a text that differs for unlike values, also for True and 1."""
    return repr(thing)


def error_of(kind, function, *arguments, **named):
    """Return the `thing` of the error of exactly this kind that a call raises; check that nothing changed."""
    before = copy.deepcopy((arguments, named))
    for _ in range(2):
        try:
            result = function(*arguments, **named)
        except kind as error:
            assert type(error) is kind, f"{type(error)} instead of {kind}"
            thing = error.thing
        else:
            raise AssertionError(f"{function.__name__}{arguments} returned {result!r}")
        assert strict(before) == strict((arguments, named)), "an argument was changed"
    return thing


def plain_lean(table, one, other):
    """Return the lean, straight from the words of the document."""
    n = len(table)
    return sum(table[i][j] * one[i] * other[j] for i in range(n) for j in range(n))


def plain_determinant(rows):
    """Return the determinant of one to three rows, written out."""
    if len(rows) == 1:
        return rows[0][0]
    if len(rows) == 2:
        (a, b), (c, d) = rows
        return a * d - b * c
    (a, b, c), (d, e, f), (g, h, i) = rows
    return a * (e * i - f * h) - b * (d * i - f * g) + c * (d * h - e * g)


def added(n, to, what, times):
    """Return the change that adds a row to another, so many times."""
    return tuple(
        tuple(int(i == j) + (times if (i, j) == (to, what) else 0) for j in range(n))
        for i in range(n)
    )


def plain_changed(table, change):
    """Return the table of the leans of the rows of a change."""
    return tuple(tuple(plain_lean(table, one, other) for other in change) for one in change)
