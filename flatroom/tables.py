"""Tables: which are such, how they turn rows and flats, one behind the other, undone, and how many there are."""

from flatroom.errors import BadTable
from flatroom.forms import check_flat, form_of, whole_room
from flatroom.rows import are_rows, check_room, check_row, power, put_together


def row_turned(prime, places, table, row):
    """What a table turns a row to."""
    check_room(prime, places)
    check_table(prime, places, table)
    check_row(prime, places, row)
    return row_through(prime, places, table, row)


def turned_by(prime, places, table, flat):
    """What a table turns a flat to."""
    check_room(prime, places)
    check_table(prime, places, table)
    check_flat(prime, places, flat)
    return flat_through(prime, places, table, flat)


def behind(prime, places, one, other):
    """The table that does the first one, then the second."""
    check_room(prime, places)
    check_table(prime, places, one)
    check_table(prime, places, other)
    return behind_of(prime, places, one, other)


def undone(prime, places, table):
    """The table that undoes this one."""
    check_room(prime, places)
    check_table(prime, places, table)
    return undone_of(prime, places, table)


def tables(prime, places):
    """How many tables there are."""
    check_room(prime, places)
    many = 1
    for width in range(places):
        # The next row is any one that the rows ahead of it do not make.
        many *= power(prime, places) - power(prime, width)
    return many


def check_table(prime, places, told):
    """Refuse what is no table."""
    if not is_table(prime, places, told):
        raise BadTable("a table must be a list of as many rows as places, whose flat is the whole room")


def is_table(prime, places, told):
    """Whether this is a table of the room."""
    # Fewer rows than places never have the whole room as their flat.
    return are_rows(prime, places, told, places) and len(form_of(prime, places, told)) == places


def row_through(prime, places, table, row):
    """What is known to be a table turns a row to this."""
    return put_together(prime, places, row, table)


def flat_through(prime, places, table, flat):
    """What is known to be a table turns a flat to this."""
    return form_of(prime, places, [row_through(prime, places, table, row) for row in flat])


def behind_of(prime, places, one, other):
    """What are known to be tables, the first one's work done first."""
    return [row_through(prime, places, other, row) for row in one]


def undone_of(prime, places, table):
    """The table that undoes what is known to be one."""
    # Beside each row stands what the table turned to it, and stays so, whatever rows are put together.
    # So in the form, which has the whole room ahead, each row of that stands beside what was turned to it.
    pairs = [row + source for row, source in zip(table, whole_room(places))]
    return [row[places:] for row in form_of(prime, 2 * places, pairs)]
