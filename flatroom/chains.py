"""Chains: of a table, across one, and two of them led along one base."""

from flatroom.answers import Along
from flatroom.crossing import across_of
from flatroom.errors import BadChain
from flatroom.forms import first_flats, is_form, rest_of
from flatroom.meeting import is_inside, met_of
from flatroom.rows import check_room
from flatroom.tables import check_table


def chain_of(prime, places, table):
    """The chain of the flats of a table's first rows."""
    check_room(prime, places)
    check_table(prime, places, table)
    return first_flats(prime, places, table)


def across_chain(prime, places, chain):
    """The chain of the flats across a chain's own, from the last one's on."""
    check_room(prime, places)
    check_chain(prime, places, chain)
    return [across_of(prime, places, flat) for flat in reversed(chain)]


def both(prime, places, one, other):
    """The base and the order along which two chains are led."""
    check_room(prime, places)
    check_chain(prime, places, one)
    check_chain(prime, places, other)
    base = []
    order = []
    for low, high in zip(one, one[1:]):
        row, number = next_along(prime, places, low, high, other)
        base.append(row)
        order.append(number)
    return Along(base, order)


def next_along(prime, places, low, high, chain):
    """A row that the high flat has and the low one has not, as early in the chain as there is one; and its number."""
    # No number comes twice. Of two rows that first lie in the same flat of the chain, the earlier one put to the
    # later one, as often as fits, makes a row of the flat before: that would have been taken for the later one.
    width = 0
    rows = []
    while not rows:
        width += 1
        shared = met_of(prime, places, high, chain[width])
        rows = [row for row in shared if any(rest_of(prime, places, low, row))]
    return rows[0], width - 1


def check_chain(prime, places, told):
    """Refuse what is no chain."""
    if not is_chain(prime, places, told):
        raise BadChain("a chain must be a list of flats of widths 0 to the places, each inside the next one")


def is_chain(prime, places, told):
    """Whether this is a chain of the room."""
    if not isinstance(told, list) or len(told) != places + 1:
        return False
    if not all([is_form(prime, places, flat) for flat in told]):
        return False
    if [len(flat) for flat in told] != list(range(places + 1)):
        return False
    return all([is_inside(prime, places, low, high) for low, high in zip(told, told[1:])])
