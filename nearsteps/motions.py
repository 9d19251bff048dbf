"""The motions of a form (part 8 of the document)."""

from nearsteps.alike import changes_between
from nearsteps.forms import need_change, need_form
from nearsteps.nearest import need_spot
from nearsteps.rows import led_by
from nearsteps.spots import lowest


def motions(form):
    """Return the ascending tuple of all changes that give the form itself."""
    need_form(form)
    return tuple(sorted(changes_between(form, form)))


def spot_led(form, change, spot):
    """Return the spot whose tops are led by the change."""
    need_form(form)
    need_change(len(form), change)
    need_spot(len(form), spot)
    return lowest(led_by(change, spot[0]), spot[1])
