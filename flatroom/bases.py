"""A base of the room by which three flats are told, the same way whenever their widths are the same."""

from flatroom.forms import form_of, rest_of, whole_room
from flatroom.meeting import beside_of, joined_of, met_of
from flatroom.rows import put_together


def base_through(prime, places, flats):
    """A base of the room, such that which of its rows make each flat is told by the widths of the three alone."""
    one, two, three = flats
    core, one_two, one_three, two_three = shared_rows(prime, places, flats)
    last_joined = joined_of(prime, places, two, three)
    tied = added(prime, places, core + one_two + one_three, met_of(prime, places, one, last_joined))
    # A tied row is one of the second flat and one of the third put together, though none of these lies in both.
    # Its part in the second stands in the base, too, so that both together make its part in the third.
    parts = [part_in(prime, places, row, two, three) for row in tied]
    rests = [put_together(prime, places, [1, -1], [row, part]) for row, part in zip(tied, parts)]
    own_one = added(prime, places, core + one_two + one_three + tied, one)
    own_two = added(prime, places, core + one_two + two_three + parts, two)
    own_three = added(prime, places, core + one_three + two_three + rests, three)
    base = core + one_two + one_three + two_three + tied + parts + own_one + own_two + own_three
    return base + added(prime, places, base, whole_room(places))


def shared_rows(prime, places, flats):
    """Rows that all three flats share, then what the first and second, first and third, last two share beyond these."""
    one, two, three = flats
    first_two = met_of(prime, places, one, two)
    core = met_of(prime, places, first_two, three)
    pairs = [first_two, met_of(prime, places, one, three), met_of(prime, places, two, three)]
    return [core] + [added(prime, places, core, pair) for pair in pairs]


def added(prime, places, rows, flat):
    """Rows that, behind these, which must lie in the flat, make it, none of them made by those ahead of it."""
    return beside_of(form_of(prime, places, rows), flat)


def part_in(prime, places, row, one, other):
    """Of a row of two flats joined a part that lies in the first, such that the rest lies in the second."""
    # Behind each row stands its part in the first flat, and stays so, whatever rows are put together.
    # When all of a row ahead is taken out, what stands behind is the part that was taken of the first flat.
    # What both flats share may be taken of either.
    pairs = [own + own for own in one] + [own + [0] * places for own in other]
    rest = rest_of(prime, 2 * places, form_of(prime, 2 * places, pairs), row + [0] * places)
    return [-number % prime for number in rest[places:]]
