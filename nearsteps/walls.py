"""Classes of steps, walls and obtuse rows (part 3 of the document)."""

from nearsteps.errors import BadStep
from nearsteps.forms import is_change, need_form, need_step
from nearsteps.kinds import has_word, is_step
from nearsteps.obtuse import obtuse_rows, shortest_in_classes
from nearsteps.rows import lean_by, led_by, opposite, size_by


def class_of(n, step):
    """Return the class of a step."""
    need_step(n, step)
    return class_by(step)


def class_size(form, kind):
    """Return the size of a class."""
    need_form(form)
    need_kind(len(form), kind)
    return size_by(form, shortest_by_class(form)[kind][0])


def class_shortest(form, kind):
    """Return the ascending tuple of the shortest steps of a class."""
    need_form(form)
    need_kind(len(form), kind)
    return tuple(sorted(shortest_by_class(form)[kind]))


def walls(form):
    """Return the ascending tuple of the walls of a form."""
    need_form(form)
    found = []
    for steps in shortest_by_class(form).values():
        if len(steps) == 2:
            found.extend(steps)
    return tuple(sorted(found))


def judge_step(form, step):
    """Return a certificate that the step is a wall, or that it is none."""
    need_form(form)
    need_nonzero(len(form), step)
    # Only a wall finds nothing but itself and its opposite among the shortest of its class.
    for other in shortest_by_class(form)[class_by(step)]:
        if other != step and other != opposite(step):
            return ("other", other)
    return ("wall",)


def step_holds(form, step, thing):
    """Tell whether any value is a right certificate for the step."""
    need_form(form)
    need_nonzero(len(form), step)
    if has_word(thing, "wall", 1):
        return step in walls(form)
    if not has_word(thing, "other", 2) or not is_step(len(form), thing[1]):
        return False
    other = thing[1]
    if other == step or other == opposite(step) or class_by(other) != class_by(step):
        return False
    return size_by(form, other) <= size_by(form, step)


def is_obtuse(form, thing):
    """Tell whether any value is an obtuse row of the form."""
    need_form(form)
    n = len(form)
    if not isinstance(thing, tuple) or not is_change(n, thing[:-1]):
        return False
    if not is_step(n, thing[-1]) or any(led_by(thing, (1,) * (n + 1))):
        return False
    return all([lean_by(form, thing[i], thing[j]) <= 0 for i in range(n + 1) for j in range(i)])


def obtuse_row(form):
    """Return an obtuse row of the form."""
    need_form(form)
    return obtuse_rows(form)


def wall_fits(form, thing):
    """Tell whether any value is a wall of the form."""
    return is_step(len(form), thing) and thing in walls(form)


def class_by(step):
    """Return the remainders of a step's numbers by 2."""
    return tuple([number & 1 for number in step])


def shortest_by_class(form):
    """Return the shortest steps of each class."""
    found = {}
    for step in shortest_in_classes(form, obtuse_rows(form)):
        found.setdefault(class_by(step), []).append(step)
    return found


def need_kind(n, thing):
    """Raise BadStep with a value that is no class of n."""
    need_step(n, thing)
    if class_by(thing) != thing:
        raise BadStep(thing)


def need_nonzero(n, thing):
    """Raise BadStep with a value that is no step of n integers, or is noughts."""
    need_step(n, thing)
    if not any(thing):
        raise BadStep(thing)
