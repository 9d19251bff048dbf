"""Forms that are alike but for the choice of their steps (part 8 of the document)."""

from nearsteps.errors import BadForm
from nearsteps.forms import back, is_change, is_form, need_form
from nearsteps.kinds import has_word, is_step
from nearsteps.obtuse import short_rows
from nearsteps.rows import added, determinant, lean_by, leans_by, led_by, noughts_of, size_by
from nearsteps.walls import class_by, shortest_by_class, walls


def signs(form):
    """Return the sizes of all classes but that of noughts, the classes ascending."""
    need_form(form)
    sizes = sizes_of_classes(form)
    return tuple([sizes[kind] for kind in sorted(sizes) if any(kind)])


def least_signs(form):
    """Return the first ones, as Python sorts, of the signs after any renaming of the classes."""
    need_form(form)
    sizes = sizes_of_classes(form)
    return min([tuple([sizes[kind] for kind in kinds]) for kinds in renamings(len(form))])


def judge_alike(one, other):
    """Return a certificate that two forms are alike, or that they are not."""
    need_two_forms(one, other)
    found = changes_between(one, other)
    if len(found) > 0:
        return ("change", found[0])
    return ("signs", least_signs(one), least_signs(other))


def alike_holds(one, other, thing):
    """Tell whether any value is a right certificate for the two forms."""
    need_two_forms(one, other)
    n = len(one)
    if has_word(thing, "change", 2):
        return is_change(n, thing[1]) and leans_by(one, thing[1]) == other
    if not has_word(thing, "signs", 3) or thing[1] == thing[2]:
        return False
    return are_least_signs(one, thing[1]) and are_least_signs(other, thing[2])


def changes_between(one, other):
    """Return all changes by which the first form becomes the second one."""
    # The short rows of the second form are among its walls, so that such a change leads
    # them to walls of the first form. Whatever walls there have the same leans are led
    # to by a change, unless they leave places out.
    rows = short_rows(other)
    leans = leans_by(other, rows)
    around = walls(one)
    found = [()]
    for at in range(len(rows)):
        found = [steps + (step,) for steps in found for step in around if leans_fit(one, leans[at], steps + (step,))]
    return [change_to(rows, steps) for steps in found if determinant(steps) in (1, -1)]


def leans_fit(form, leans, steps):
    """Tell whether the last step has these leans with the steps up to itself."""
    return all([lean_by(form, steps[-1], step) == lean for step, lean in zip(steps, leans)])


def change_to(rows, steps):
    """Return the change that leads each of the rows of a change to the step at its position."""
    return tuple([led_by(steps, numbers) for numbers in back(len(rows), rows)])


def sizes_of_classes(form):
    """Return the size of each class."""
    return {kind: size_by(form, steps[0]) for kind, steps in shortest_by_class(form).items()}


def renamings(n):
    """Return for each renaming the classes to which it leads all but noughts', these in their order."""
    # Row by row, from the last one on: a row that is no sum of those after it doubles
    # the classes that are led to.
    kinds = [()]
    for _ in range(n):
        kinds = [kind + (number,) for kind in kinds for number in (0, 1)]
    found = [[noughts_of(n)]]
    for _ in range(n):
        found = [
            before + [class_by(added(kind, one)) for one in before]
            for before in found for kind in kinds if kind not in before
        ]
    return [led_to[1:] for led_to in found]


def are_least_signs(form, thing):
    """Tell whether any value is the least signs of the form."""
    told = least_signs(form)
    return is_step(len(told), thing) and thing == told


def need_two_forms(one, other):
    """Raise BadForm with the first value that is no form, or has another n than the one before."""
    need_form(one)
    if not is_form(other) or len(other) != len(one):
        raise BadForm(other)
