"""Two flats joined, met, one inside the other one, and what lies beside it there."""

from flatroom.crossing import across_of
from flatroom.errors import NotInside
from flatroom.forms import check_flat, corner_of, corners_of, form_of, rest_of
from flatroom.rows import check_room


def joined(prime, places, one, other):
    """The flat of the rows of both."""
    check_two(prime, places, one, other)
    return joined_of(prime, places, one, other)


def met(prime, places, one, other):
    """The flat of all rows that lie in both."""
    check_two(prime, places, one, other)
    return met_of(prime, places, one, other)


def inside(prime, places, one, other):
    """Whether the first lies inside the second."""
    check_two(prime, places, one, other)
    return is_inside(prime, places, one, other)


def beside(prime, places, one, other):
    """A flat that, joined with the first, is the second, and meets the first in the row of noughts alone."""
    check_two(prime, places, one, other)
    if not is_inside(prime, places, one, other):
        raise NotInside("the first flat must lie inside the second")
    return beside_of(one, other)


def check_two(prime, places, one, other):
    """Refuse what is no room, then what are no flats of it."""
    check_room(prime, places)
    check_flat(prime, places, one)
    check_flat(prime, places, other)


def joined_of(prime, places, one, other):
    """The flat of the rows of what are known to be flats."""
    return form_of(prime, places, one + other)


def met_of(prime, places, one, other):
    """What those that are known to be flats meet in."""
    # Just what is nought on all that is nought on a flat lies in it.
    sides = [across_of(prime, places, one), across_of(prime, places, other)]
    return across_of(prime, places, joined_of(prime, places, sides[0], sides[1]))


def is_inside(prime, places, one, other):
    """Whether the first of what are known to be flats lies inside the second."""
    return not any([any(rest_of(prime, places, other, row)) for row in one])


def beside_of(one, other):
    """What, joined with the first, is the second, and meets it in nothing, if the first is known to lie inside."""
    # The corners of a flat inside are corners of the other one, too. What the other rows make is 0
    # at all of them, as nothing in the first flat is but the row of noughts.
    led = corners_of(one)
    return [list(row) for row in other if corner_of(row) not in led]
