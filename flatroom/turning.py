"""Some flats turned to others by a table, or the width that shows that they can't be."""

from flatroom.answers import Turned, Unlike
from flatroom.bases import base_through
from flatroom.errors import BadFlat
from flatroom.forms import check_flat
from flatroom.meeting import check_two
from flatroom.rows import check_room
from flatroom.tables import behind_of, undone_of
from flatroom.widths import widths_of


def widths(prime, places, flats):
    """The widths of one, two or three flats, in the told turn."""
    check_room(prime, places)
    check_flats(prime, places, flats, (1, 2, 3))
    return widths_of(prime, places, flats)


def turn(prime, places, one, other):
    """Turned, if a table turns the one flat to the other one, or else Unlike."""
    check_two(prime, places, one, other)
    return turn_of(prime, places, [one], [other])


def turn_two(prime, places, flats, others):
    """Turned, if a table turns two flats to two others, or else Unlike."""
    check_both(prime, places, flats, others, 2)
    return turn_of(prime, places, flats, others)


def turn_three(prime, places, flats, others):
    """Turned, if a table turns three flats to three others, or else Unlike."""
    check_both(prime, places, flats, others, 3)
    return turn_of(prime, places, flats, others)


def check_both(prime, places, flats, others, many):
    """Refuse what is no room, then what are no lists of so many flats of it."""
    check_room(prime, places)
    check_flats(prime, places, flats, (many,))
    check_flats(prime, places, others, (many,))


def check_flats(prime, places, told, counts):
    """Refuse what is no list of flats, as many as one of the counts."""
    if not isinstance(told, list) or len(told) not in counts:
        raise BadFlat("the flats must be a list of as many flats as are told of")
    for flat in told:
        check_flat(prime, places, flat)


def turn_of(prime, places, flats, others):
    """Turned or Unlike of as many flats as others, one, two or three."""
    here = widths_of(prime, places, flats)
    there = widths_of(prime, places, others)
    for at, width in enumerate(here):
        if width != there[at]:
            return Unlike(at)
    return Turned(table_between(prime, places, filled(flats), filled(others)))


def filled(flats):
    """The flats, and flats of no rows behind them to make three."""
    # A flat of no rows adds no width of its own, so what the widths of fewer tell is what these tell.
    return flats + [[]] * (3 - len(flats))


def table_between(prime, places, flats, others):
    """The table that turns three flats to three others whose widths are alike."""
    # The same rows of both bases make the flats and the others, so each row is to be turned to the one in its stead.
    here = base_through(prime, places, flats)
    there = base_through(prime, places, others)
    return behind_of(prime, places, undone_of(prime, places, here), there)
