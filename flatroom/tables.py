"""Tables: which are such, and how they turn rows and flats."""

from flatroom.forms import form_of
from flatroom.rows import are_rows, put_together


def is_table(prime, places, told):
    """Whether this is a table of the room."""
    # Fewer rows than places never have the whole room as their flat.
    return are_rows(prime, places, told, places) and len(form_of(prime, places, told)) == places


def row_through(prime, places, table, row):
    """What a table turns a row to."""
    return put_together(prime, places, row, table)


def flat_through(prime, places, table, flat):
    """What a table turns a flat to."""
    return form_of(prime, places, [row_through(prime, places, table, row) for row in flat])
