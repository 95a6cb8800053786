"""How many flats, corners and chains there are, and the number of each flat."""

from flatroom.errors import BadCorners, BadNumber, BadWidth, NotInside
from flatroom.forms import check_flat, corners_of
from flatroom.meeting import check_two, is_inside
from flatroom.rows import check_room, is_number, power


def how_many(prime, places, width):
    """How many flats of a width there are."""
    check_room(prime, places)
    check_width(places, width)
    return flats_of_width(prime, places, width)


def cells(prime, places, width):
    """All corners that flats of a width can have, in order."""
    check_room(prime, places)
    check_width(places, width)
    return rising_lists(places, width)


def in_cell(prime, places, corners):
    """How many flats have these corners."""
    check_room(prime, places)
    if not are_rising(places, corners):
        raise BadCorners("the corners must be a list of rising places")
    return flats_with(prime, places, corners)


def flat_by(prime, places, width, number):
    """The flat of a width that has this number."""
    check_room(prime, places)
    check_width(places, width)
    if not is_number(number) or not 0 <= number < flats_of_width(prime, places, width):
        raise BadNumber("the number must be one from 0 to one less than there are flats of the width")
    rest = number
    lists = rising_lists(places, width)
    at = 0
    while rest >= flats_with(prime, places, lists[at]):
        rest -= flats_with(prime, places, lists[at])
        at += 1
    return flat_with(prime, places, lists[at], rest)


def number_of(prime, places, flat):
    """The number of a flat among all of its width."""
    check_room(prime, places)
    check_flat(prime, places, flat)
    led = corners_of(flat)
    ahead = [other for other in rising_lists(places, len(flat)) if other < led]
    return sum([flats_with(prime, places, other) for other in ahead]) + number_with(prime, places, led, flat)


def between(prime, places, low, high, width):
    """How many flats of a width lie between two flats, both counted, too."""
    check_two(prime, places, low, high)
    if not is_inside(prime, places, low, high):
        raise NotInside("the low flat must lie inside the high one")
    check_width(places, width)
    if not len(low) <= width <= len(high):
        return 0
    # What goes through the low flat is told by what it adds to it, as in a room of so many places less.
    return flats_of_width(prime, len(high) - len(low), width - len(low))


def beside_many(prime, places, flat):
    """How many flats, joined with one, make the whole room and meet it in the row of noughts alone."""
    check_room(prime, places)
    check_flat(prime, places, flat)
    # Each row of one such flat may have any row of the flat put to it, and that makes each other such flat once.
    return power(prime, len(flat) * (places - len(flat)))


def chains(prime, places):
    """How many chains there are."""
    check_room(prime, places)
    many = 1
    for width in range(1, places + 1):
        # Of each flat, the next one below is any one that is one row less wide.
        many *= flats_of_width(prime, width, width - 1)
    return many


def check_width(places, told):
    """Refuse what is no width from 0 to the places."""
    if not is_number(told) or not 0 <= told <= places:
        raise BadWidth("the width must be a number from 0 to the places")


def are_rising(places, told):
    """Whether this is a list of rising places."""
    if not isinstance(told, list) or not all([is_number(place) and 0 <= place < places for place in told]):
        return False
    return all([place < later for place, later in zip(told, told[1:])])


def flats_of_width(prime, places, width):
    """How many flats have a width that is none below 0 and none beyond the places."""
    many = 1
    for step in range(width):
        # Each step makes the number of the flats of the next width, so nothing is left over.
        many = many * (power(prime, places - step) - 1) // (power(prime, step + 1) - 1)
    return many


def rising_lists(places, many):
    """All lists of so many rising places, in order."""
    made = [[]]
    for step in range(many):
        made = [led + [place] for led in made for place in range(first_after(led), places)]
    return made


def first_after(led):
    """The first place that may stand behind these."""
    return led[-1] + 1 if led else 0


def free_spots(places, led):
    """Where forms with these corners are free, as pairs of row and place, the rows one behind the other."""
    return [(at, place) for at, corner in enumerate(led) for place in range(corner + 1, places) if place not in led]


def flats_with(prime, places, led):
    """How many flats have these corners."""
    return power(prime, len(free_spots(places, led)))


def flat_with(prime, places, led, number):
    """The flat with these corners that so many with the same ones are ahead of."""
    flat = [[int(place == corner) for place in range(places)] for corner in led]
    rest = number
    # The last free spot changes from each flat to the next one, so that the number is read from behind.
    for at, place in reversed(free_spots(places, led)):
        flat[at][place] = rest % prime
        rest = rest // prime
    return flat


def number_with(prime, places, led, flat):
    """How many flats with the same corners are ahead of a flat."""
    number = 0
    for at, place in free_spots(places, led):
        number = number * prime + flat[at][place]
    return number
