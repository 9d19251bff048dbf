"""Words for the lots into which places fall (part 11 of the document)."""

from nearsteps.coarse import need_coarse, nearest_coarse
from nearsteps.errors import BadStep
from nearsteps.forms import need_form, need_step
from nearsteps.kinds import has_word, is_step
from nearsteps.lots import all_words, word_by
from nearsteps.rows import added, added_times, led_by
from nearsteps.spots import told_by


def word_of(n, coarse, place):
    """Return the word of the lot of a place."""
    need_coarse(n, coarse)
    need_step(n, place)
    return word_by(coarse, place)


def words(n, coarse):
    """Return the ascending tuple of all words."""
    need_coarse(n, coarse)
    return tuple(all_words(coarse))


def sum_of(n, coarse, one, other):
    """Return the word of the sum of two words."""
    need_coarse(n, coarse)
    need_word(n, coarse, one)
    need_word(n, coarse, other)
    return word_by(coarse, added(one, other))


def order_of(n, coarse, word):
    """Return the least integer from 1 on by which the word becomes a coarse place."""
    need_coarse(n, coarse)
    need_word(n, coarse, word)
    # A number of times gives a coarse place exactly if it clears the bottoms of the
    # numbers by which the word is told.
    return told_by(coarse, (word, 1))[1]


def judge_same(n, coarse, one, other):
    """Return a certificate that two places are of one lot, or that they are not."""
    need_two_places(n, coarse, one, other)
    numbers, bottom = told_by(coarse, (added_times(one, other, -1), 1))
    if bottom == 1:
        return ("same", numbers)
    return ("words", word_by(coarse, one), word_by(coarse, other))


def same_holds(n, coarse, one, other, thing):
    """Tell whether any value is a right certificate for the two places."""
    need_two_places(n, coarse, one, other)
    if has_word(thing, "same", 2):
        return is_step(n, thing[1]) and led_by(coarse, thing[1]) == added_times(one, other, -1)
    if not has_word(thing, "words", 3) or not is_step(n, thing[1]) or not is_step(n, thing[2]):
        return False
    return thing[1] != thing[2] and thing[1:] == (word_by(coarse, one), word_by(coarse, other))


def leaders(form, coarse, word):
    """Return the ascending tuple of the shortest places of the lot of a word."""
    need_form(form)
    need_coarse(len(form), coarse)
    need_word(len(form), coarse, word)
    return tuple(sorted([added_times(word, end, -1) for end in nearest_coarse(form, coarse, (word, 1))]))


def need_word(n, coarse, thing):
    """Raise BadStep with a value that is no word."""
    need_step(n, thing)
    if word_by(coarse, thing) != thing:
        raise BadStep(thing)


def need_two_places(n, coarse, one, other):
    """Raise BadCoarse or BadStep with the first value that is not what it should be."""
    need_coarse(n, coarse)
    need_step(n, one)
    need_step(n, other)
