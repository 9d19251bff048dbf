"""Tables, forms, steps and changes (part 1 of the document)."""

from nearsteps.errors import BadChange, BadForm, BadStep, BadTable
from nearsteps.kinds import is_square, is_step
from nearsteps.rows import adjoint, determinant, lean_by, leans_by, led_by, size_by


def is_table(thing):
    """Tell whether any value is a table."""
    if not isinstance(thing, tuple) or len(thing) not in (1, 2, 3):
        return False
    if not is_square(len(thing), thing):
        return False
    places = range(len(thing))
    return all([thing[i][j] == thing[j][i] for i in places for j in range(i)])


def is_form(thing):
    """Tell whether any value is a form."""
    return is_table(thing) and low_step(thing) is None


def judge_form(table):
    """Return a certificate that the table is a form, or that it is none."""
    need_table(table)
    step = low_step(table)
    return ("form",) if step is None else ("low", step)


def form_holds(table, thing):
    """Tell whether any value is a right certificate for the table."""
    need_table(table)
    if not isinstance(thing, tuple):
        return False
    if thing == ("form",):
        return is_form(table)
    if len(thing) != 2 or thing[0] != "low" or not is_step(len(table), thing[1]):
        return False
    return any(thing[1]) and size_by(table, thing[1]) <= 0


def lean(form, one, other):
    """Return the lean of two steps by a form."""
    need_form(form)
    need_step(len(form), one)
    need_step(len(form), other)
    return lean_by(form, one, other)


def size(form, step):
    """Return the size of a step by a form."""
    need_form(form)
    need_step(len(form), step)
    return size_by(form, step)


def is_change(n, thing):
    """Tell whether any value is a change of n."""
    return is_square(n, thing) and determinant(thing) in (1, -1)


def changed(form, change):
    """Return the form that has the leans of the rows of the change."""
    need_form(form)
    need_change(len(form), change)
    return leans_by(form, change)


def led(n, change, step):
    """Return the step led by the change."""
    need_change(n, change)
    need_step(n, step)
    return led_by(change, step)


def back(n, change):
    """Return the change that leads each led step back."""
    need_change(n, change)
    sign = determinant(change)
    return tuple([tuple([sign * number for number in row]) for row in adjoint(change)])


def low_step(table):
    """Return a step other than noughts whose size is at most 0, None if the table is a form."""
    # A table is a form exactly if all its leading determinants are above 0. At the
    # first one that is not, the last row of the adjoint has as its size the product of
    # this determinant and the one before, which is the row's last number and above 0.
    for many in range(1, len(table) + 1):
        leading = tuple([row[:many] for row in table[:many]])
        if determinant(leading) <= 0:
            return adjoint(leading)[-1] + (0,) * (len(table) - many)
    return None


def need_table(thing):
    """Raise BadTable with a value that is no table."""
    if not is_table(thing):
        raise BadTable(thing)


def need_form(thing):
    """Raise BadForm with a value that is no form."""
    if not is_form(thing):
        raise BadForm(thing)


def need_step(n, thing):
    """Raise BadStep with a value that is no step of n integers."""
    if not is_step(n, thing):
        raise BadStep(thing)


def need_change(n, thing):
    """Raise BadChange with a value that is no change of n."""
    if not is_change(n, thing):
        raise BadChange(thing)
