"""Whether a row lies in a flat, and what lies across a flat."""

from flatroom.answers import Barred, Within
from flatroom.crossing import across_of, cross_at
from flatroom.forms import check_flat, corner_of, corners_of, rest_of
from flatroom.rows import check_room, check_row


def lies(prime, places, flat, row):
    """Within, if the row lies in the flat, or else Barred."""
    check_room(prime, places)
    check_flat(prime, places, flat)
    check_row(prime, places, row)
    rest = rest_of(prime, places, flat, row)
    if any(rest):
        # The cross makes the same number with the rest as with the row. The rest is 0 at each corner,
        # and the cross at each place but these and this one, so that it is the rest's number here.
        return Barred(cross_at(prime, places, flat, corner_of(rest)))
    return Within([row[corner] for corner in corners_of(flat)])


def across(prime, places, flat):
    """The flat of all rows that are nought on a flat."""
    check_room(prime, places)
    check_flat(prime, places, flat)
    return across_of(prime, places, flat)
