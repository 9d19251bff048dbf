"""Values of all kinds that stand in wrong places, and a check that counts kinds too."""

import copy
import math


def nested(deep):
    """Return a tuple in a tuple in a tuple, and so on."""
    thing = ()
    for _ in range(deep):
        thing = (thing,)
    return thing


ODD_VALUES = [
    None, True, False, 0, 1, -1, 2, 3, 10 ** 39, -(10 ** 39), "", "form", "low", "(1,)", "x" * 800,
    (), [], {}, (None,), (True,), (False,), ("1",), ("form",), ["form"], ("low",), ("low", None),
    ("form", "form"), ("FORM",), (b"form",), ((),), [()], ([],), [[]], ({},), {0: 1}, {"form": True},
    (((1,),), ((1,),)), ([1],), [(1,)], [[1]], ((True,),), ((None,),), (("1",),), ((1, 0),),
    ((1,), (0,)), ((1, 0), (0,)), ((1, 0), [0, 1]), [(1, 0), (0, 1)], ((True, 0), (0, True)),
    ((1, 0), (False, 1)), ((1, 2), (3, 4)), ((1, 0), (0, 1), (0, 0)), ((1, 0, 0), (0, 1, 0)),
    ((1, 0, 0), (0, 1, 0), (0, 0, True)), ((1, 0, 0), (0, 1, 0), (0, 1, 1)), ((1, 0, 0), None, (0, 0, 1)),
    tuple(tuple(int(i == j) for j in range(4)) for i in range(4)), tuple(range(2000)),
    nested(8), [nested(7)], {"a": [{"b": (1, [2, {"c": ((),)}])}]},
]

NO_FORMS = [
    None, True, 1, "form", (), ((),), [(1,)], ([1],), ((0,),), ((-1,),), ((True,),), ((1, 2), (2, 1)), ((1, 1), (1, 1)),
    ((1, 0), (1, 1)), ((1, 0, 0), (0, 1, 0)), ((1, 0, 0), (0, 1, 0), (0, 0, 0)), {0: (1,)},
]


def strict(thing):
    """Return a text that differs for unlike values, also for True and 1."""
    return repr(thing)


def error_of(kind, function, /, *arguments, **named):
    """Return the `thing` of the error of exactly this kind that a call raises; check that nothing changed."""
    before = copy.deepcopy((arguments, named))
    for _ in range(2):
        try:
            result = function(*arguments, **named)
        except kind as error:
            assert type(error) is kind, f"{type(error)} instead of {kind}"
            thing = error.thing
        else:
            raise AssertionError(f"{function.__name__}{arguments} returned {result!r}")
        assert strict(before) == strict((arguments, named)), "an argument was changed"
    return thing


def answer(function, /, **named):
    """Return what a call returns, in whatever way its arguments are passed; they are told in their order."""
    before = strict(named)
    told = function(*named.values())
    for again in (function(*named.values()), function(**named),
                  function(**dict(reversed(list(named.items()))))):
        assert strict(again) == strict(told), f"{function.__name__}{named} returned {told!r}, then {again!r}"
    assert strict(named) == before, "an argument was changed"
    return told


def variants(thing):
    """Return values that are almost the thing: parts of another kind, left out, exchanged, repeated."""
    out = [thing, [thing], (thing,), None]
    if type(thing) is int:
        return out + [thing + 1, thing - 1, -thing, 2 * thing, bool(thing), str(thing), 10 ** 39]
    if type(thing) is str:
        return out + [thing.upper(), thing + " ", thing[:-1], "", "middle"]
    if type(thing) is tuple:
        out += [list(thing), thing + thing, thing + (0,), thing[::-1], ()]
        for at, part in enumerate(thing):
            out += [thing[:at] + thing[at + 1:], thing[:at] + (part,) + thing[at:]]
            out += [thing[:at] + (other,) + thing[at + 1:] for other in variants(part) + [0, -1, {}, "spot"]]
            if at:
                out.append(thing[:at - 1] + (part, thing[at - 1]) + thing[at + 1:])
    return out


def is_plain_step(n, thing):
    """Tell whether a value is a step, straight from the words of the document."""
    return type(thing) is tuple and len(thing) == n and all(type(number) is int for number in thing)


def is_plain_spot(n, thing):
    """Tell whether a value is a spot, straight from the words of the document."""
    if type(thing) is not tuple or len(thing) != 2 or not is_plain_step(n, thing[0]) or type(thing[1]) is not int:
        return False
    return thing[1] > 0 and math.gcd(thing[1], *thing[0]) == 1


def plain_lean(table, one, other):
    """Return the lean, straight from the words of the document."""
    n = len(table)
    return sum(table[i][j] * one[i] * other[j] for i in range(n) for j in range(n))


def plain_determinant(rows):
    """Return the determinant of one to three rows, written out."""
    if len(rows) == 1:
        return rows[0][0]
    if len(rows) == 2:
        (a, b), (c, d) = rows
        return a * d - b * c
    (a, b, c), (d, e, f), (g, h, i) = rows
    return a * (e * i - f * h) - b * (d * i - f * g) + c * (d * h - e * g)


def added(n, to, what, times):
    """Return the change that adds a row to another, so many times."""
    return tuple(
        tuple(int(i == j) + (times if (i, j) == (to, what) else 0) for j in range(n))
        for i in range(n)
    )


def plain_changed(table, change):
    """Return the table of the leans of the rows of a change."""
    return tuple(tuple(plain_lean(table, one, other) for other in change) for one in change)
