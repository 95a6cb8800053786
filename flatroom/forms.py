"""The one form of each flat, and its corners."""

from flatroom.errors import BadFlat, BadRow
from flatroom.rows import are_rows, check_room, inverse, put_together

MOST_ROWS = 20


def form(prime, places, rows):
    """The form of the flat of a list of 0 to 20 rows."""
    check_room(prime, places)
    if not are_rows(prime, places, rows, MOST_ROWS):
        raise BadRow("the rows must be a list of 0 to 20 rows of the room")
    return form_of(prime, places, rows)


def corners(prime, places, flat):
    """The places of the corners of a flat."""
    check_room(prime, places)
    check_flat(prime, places, flat)
    return corners_of(flat)


def check_flat(prime, places, told):
    """Refuse what is no form."""
    if not is_form(prime, places, told):
        raise BadFlat("a flat must be told by its form")


def is_form(prime, places, told):
    """Whether this is the form of a flat of the room."""
    if not are_rows(prime, places, told, places):
        return False
    # A flat has one form only, so just what is one comes back as it was.
    return form_of(prime, places, told) == told


def form_of(prime, places, rows):
    """The form of the flat of what is known to be rows, however many."""
    flat = []
    for row in rows:
        rest = rest_of(prime, places, flat, row)
        if any(rest):
            flat = widened(prime, places, flat, rest)
    return flat


def first_flats(prime, places, rows):
    """The flats of the first ones of some rows: of none, of one, and so on to all."""
    return [form_of(prime, places, rows[:many]) for many in range(len(rows) + 1)]


def whole_room(places):
    """The form of the whole room."""
    return [[int(place == corner) for place in range(places)] for corner in range(places)]


def rest_of(prime, places, flat, row):
    """What stays of a row when the flat is taken out of it: 0 at each corner."""
    # No row of a form has another number than 0 at another one's corner,
    # so what the row has there tells how often each one is to be taken out.
    shares = [-row[corner] for corner in corners_of(flat)]
    return put_together(prime, places, [1] + shares, [row] + flat)


def widened(prime, places, flat, rest):
    """The form of a flat and one row more, not of noughts alone, but 0 at each corner."""
    corner = corner_of(rest)
    lead = put_together(prime, places, [inverse(prime, rest[corner])], [rest])
    others = [put_together(prime, places, [1, -row[corner]], [row, lead]) for row in flat]
    return sorted(others + [lead], key=corner_of)


def corners_of(flat):
    """The corner of each row of a form."""
    return [corner_of(row) for row in flat]


def corner_of(row):
    """The place of the first number but 0, or behind the last place if there is none."""
    for place, number in enumerate(row):
        if number != 0:
            return place
    return len(row)
