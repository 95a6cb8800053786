"""What is told of flats, rows and chains, each with what shows that it is so."""

from flatroom.crossing import is_nought
from flatroom.forms import first_flats
from flatroom.rows import are_rows, is_number, is_row, makes, put_together
from flatroom.tables import flat_through, is_table
from flatroom.widths import widths_of


class Answer:
    """Whatever is told with its reason."""


class Within(Answer):
    """A row lies in a flat: how often each row of the form goes into it."""

    def __init__(self, shares):
        self.shares = copied(shares)

    def shows(self, prime, places, flat, row):
        """Whether the shares make the row of the flat's form."""
        # Shares are held to what a row is held to, with the width for the places.
        if not is_row(prime, len(flat), self.shares):
            return False
        return put_together(prime, places, self.shares, flat) == row


class Barred(Answer):
    """A row does not lie in a flat: a row that is nought on the flat, but makes something with the row."""

    def __init__(self, cross):
        self.cross = copied(cross)

    def shows(self, prime, places, flat, row):
        """Whether the cross is nought on the flat and makes another number than 0 with the row."""
        if not is_row(prime, places, self.cross):
            return False
        return is_nought(prime, flat, self.cross) and makes(prime, self.cross, row) != 0


class Turned(Answer):
    """Some flats can be turned to others: a table that does it."""

    def __init__(self, table):
        self.table = copied(table)

    def shows(self, prime, places, flats, others):
        """Whether the table turns the flats, in their turn, to the others."""
        if not is_table(prime, places, self.table):
            return False
        return [flat_through(prime, places, self.table, flat) for flat in flats] == others


class Unlike(Answer):
    """Some flats can't be turned to others: the count of a width that isn't alike."""

    def __init__(self, at):
        self.at = copied(at)

    def shows(self, prime, places, flats, others):
        """Whether the width of this count is another one of the flats than of the others."""
        here = widths_of(prime, places, flats)
        there = widths_of(prime, places, others)
        if not is_number(self.at) or not 0 <= self.at < len(here):
            return False
        return here[self.at] != there[self.at]


class Along(Answer):
    """Two chains are led along one base, the second one in an order of its own."""

    def __init__(self, base, order):
        self.base = copied(base)
        self.order = copied(order)

    def shows(self, prime, places, one, other):
        """Whether the base's first rows make the first chain, and those first in the order the second."""
        if not are_rows(prime, places, self.base, places) or not is_order(places, self.order):
            return False
        if first_flats(prime, places, self.base) != one:
            return False
        ordered = [self.base[self.order.index(number)] for number in range(places)]
        return first_flats(prime, places, ordered) == other


def copied(told):
    """A list copied, lists within it, too; else what was told."""
    if isinstance(told, list):
        return [copied(part) for part in told]
    return told


def is_order(places, told):
    """Whether this is a list of all places, each once."""
    if not isinstance(told, list) or not all([is_number(number) for number in told]):
        return False
    return sorted(told) == list(range(places))
