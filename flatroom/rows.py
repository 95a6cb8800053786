"""Rooms and their rows: which are such, and how rows are put together."""

from flatroom.errors import BadRoom, BadRow

PRIMES = (2, 3, 5, 7, 11, 13, 17, 19, 23, 29, 31)
MOST_PLACES = 6


def is_number(told):
    """Whether this is a whole number; True and False are none."""
    return isinstance(told, int) and not isinstance(told, bool)


def check_room(prime, places):
    """Refuse what is no room."""
    if not is_number(prime) or prime not in PRIMES:
        raise BadRoom("the prime must be a prime to 31")
    if not is_number(places) or not 1 <= places <= MOST_PLACES:
        raise BadRoom("the places must be a count from 1 to 6")


def is_row(prime, places, told):
    """Whether this is a row of the room."""
    if not isinstance(told, list) or len(told) != places:
        return False
    return all([is_number(number) and 0 <= number < prime for number in told])


def check_row(prime, places, told):
    """Refuse what is no row."""
    if not is_row(prime, places, told):
        raise BadRow("a row must be a list of a number of the room for each place")


def are_rows(prime, places, told, most):
    """Whether this is a list of rows of the room, no more than told."""
    # The length goes first, so that a list far too long is not read through.
    if not isinstance(told, list) or len(told) > most:
        return False
    return all([is_row(prime, places, row) for row in told])


def put_together(prime, places, shares, rows):
    """The rows put together place by place, each as often as its share tells."""
    pairs = list(zip(shares, rows))
    return [sum([share * row[place] for share, row in pairs]) % prime for place in range(places)]


def makes(prime, one, other):
    """What two rows make together."""
    return sum([number * by for number, by in zip(one, other)]) % prime


def inverse(prime, number):
    """The number that makes 1 with this one, which the prime must not divide."""
    found = 1
    while found * number % prime != 1:
        found += 1
    return found


def power(prime, many):
    """The prime multiplied with itself, so many times."""
    made = 1
    for step in range(many):
        made *= prime
    return made
