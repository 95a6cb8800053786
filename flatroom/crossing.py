"""Rows that are nought on a flat, and the flat of all of them."""

from flatroom.forms import corner_of, corners_of, form_of
from flatroom.rows import makes


def is_nought(prime, flat, row):
    """Whether a row is nought on a flat."""
    # All rows of the flat are put together of its form's, so 0 with these is 0 with all.
    return not any([makes(prime, own, row) for own in flat])


def cross_at(prime, places, flat, place):
    """The row that is nought on a flat, 1 at this place and 0 at each other one, but for the corners."""
    cross = [0] * places
    cross[place] = 1
    # Each row of the form has 1 at its own corner, where all others have 0,
    # so what stands there undoes what this one row makes at the place.
    for row in flat:
        cross[corner_of(row)] = -row[place] % prime
    return cross


def across_of(prime, places, flat):
    """The flat of all rows that are nought on a flat."""
    led = corners_of(flat)
    free = [place for place in range(places) if place not in led]
    return form_of(prime, places, [cross_at(prime, places, flat, place) for place in free])
