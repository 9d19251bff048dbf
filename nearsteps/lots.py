"""Lots of places by a coarse table, told by its rows in echelon; nothing is checked here."""

from nearsteps.rows import added_times, opposite


def echelon(coarse):
    """Return rows with the same sums, the one at i having zeros before i and a number above 0 there."""
    rows = list(coarse)
    for at in range(len(rows)):
        for down in range(at + 1, len(rows)):
            # The remainders become less until the lower row has none left.
            while rows[down][at] != 0:
                times = rows[at][at] // rows[down][at]
                rows[at], rows[down] = rows[down], added_times(rows[at], rows[down], -times)
        if rows[at][at] < 0:
            rows[at] = opposite(rows[at])
    return tuple(rows)


def word_by(coarse, place):
    """Return the first one of the places of a lot all of whose numbers are from 0 on."""
    word = place
    for at, row in enumerate(echelon(coarse)):
        word = added_times(word, row, -(word[at] // row[at]))
    return word


def all_words(coarse):
    """Return the words of all lots, ascending."""
    found = [()]
    for at, row in enumerate(echelon(coarse)):
        found = [word + (number,) for word in found for number in range(row[at])]
    return found
