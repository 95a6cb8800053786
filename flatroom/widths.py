"""The widths of one, two or three flats, which no table changes."""

from flatroom.meeting import joined_of, met_of


def widths_of(prime, places, flats):
    """The widths of one, two or three flats, in the told turn."""
    if len(flats) == 1:
        return widths_of_one(flats)
    if len(flats) == 2:
        return widths_of_two(prime, places, flats)
    return widths_of_three(prime, places, flats)


def widths_of_one(flats):
    """The flat's own width."""
    return [len(flat) for flat in flats]


def widths_of_two(prime, places, flats):
    """Those of both, and that of what they meet in."""
    one, two = flats
    return [len(one), len(two), len(met_of(prime, places, one, two))]


def widths_of_three(prime, places, flats):
    """Those of all three, of what they meet in, and of what they make joined."""
    one, two, three = flats
    first_two = met_of(prime, places, one, two)
    last_joined = joined_of(prime, places, two, three)
    made = [
        first_two,
        met_of(prime, places, one, three),
        met_of(prime, places, two, three),
        met_of(prime, places, first_two, three),
        met_of(prime, places, one, last_joined),
        joined_of(prime, places, one, last_joined),
    ]
    return [len(flat) for flat in flats + made]
