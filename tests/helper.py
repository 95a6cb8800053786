"""What several tests need: rooms, odd values, and flats worked out by the document's words alone."""

import itertools
import random

PRIMES = [2, 3, 5, 7, 11, 13, 17, 19, 23, 29, 31]
ROOMS = [(prime, places) for prime in PRIMES for places in range(1, 7)]


class Hostile:
    """Refuses to be compared, counted or tested, so that only its kind can be asked for."""

    def __eq__(self, other):
        raise RuntimeError("compared")

    def __lt__(self, other):
        raise RuntimeError("compared")

    __le__ = __gt__ = __ge__ = __ne__ = __lt__
    __hash__ = None

    def __len__(self):
        raise RuntimeError("counted")

    def __bool__(self):
        raise RuntimeError("tested")

    def __iter__(self):
        raise RuntimeError("iterated")


def holding_itself():
    """A list that holds itself and nothing else."""
    ring = []
    ring.append(ring)
    return ring


def no_numbers():
    """Values of many kinds, none of which is a whole number, a number with a point or a list."""
    return [
        None, True, False, "", "2", "12", b"", b"\x01", (), (1,), (1, 0), {}, {0: 1}, set(), {1},
        frozenset([1]), range(2), iter([1]), object(), Hostile(), int, list, len, lambda: 1, ValueError("x"),
    ]


def raised(function, *told):
    """The class of what the call raises, or None if it raises nothing."""
    try:
        function(*told)
    except Exception as error:
        return type(error)
    return None


def together(prime, places, shares, rows):
    """Rows put together as point 3 tells, one step after the other."""
    made = [0] * places
    for share, row in zip(shares, rows):
        for place in range(places):
            made[place] = (made[place] + share * row[place]) % prime
    return made


def all_rows(prime, places):
    """Each row of the room."""
    return [list(row) for row in itertools.product(range(prime), repeat=places)]


def flat_of(prime, places, rows):
    """Each row of the flat of some rows as point 4 tells, by trying all shares."""
    return {
        tuple(together(prime, places, shares, rows))
        for shares in itertools.product(range(prime), repeat=len(rows))
    }


def first_place(row):
    """The place of a row's first number but 0, None if it has none."""
    return next((place for place, number in enumerate(row) if number), None)


def breaks_form(prime, places, flat):
    """What point 5 asks of a form that this breaks, in words; None if it breaks nothing."""
    if type(flat) is not list or any(type(row) is not list for row in flat):
        return "not a list of lists"
    if any(type(number) is not int or not 0 <= number < prime for row in flat for number in row):
        return "not numbers of the room"
    if any(len(row) != places for row in flat):
        return "not rows of the room"
    found = [first_place(row) for row in flat]
    if None in found:
        return "a row of noughts"
    if any(row[place] != 1 for row, place in zip(flat, found)):
        return "a first number that is not 1"
    if any(one >= other for one, other in zip(found, found[1:])):
        return "corners that do not rise"
    if any(row[place] for row in flat for place in found if place != first_place(row)):
        return "another number than 0 at another row's corner"
    return None


def some_form(prime, places, led, chance):
    """A form with these corners, its free numbers by chance."""
    flat = []
    for corner in led:
        row = [0] * corner + [1] + [chance.randrange(prime) for _ in range(corner + 1, places)]
        for other in led:
            if other > corner:
                row[other] = 0
        flat.append(row)
    return flat


def mixed(prime, rows, chance):
    """Rows of the same flat: multiplied, put together and swapped in ways that can be undone."""
    made = [[number * factor % prime for number in row]
            for row, factor in ((row, chance.randrange(1, prime)) for row in rows)]
    for _ in range(4 * len(made)):
        one, other = chance.randrange(len(made)), chance.randrange(len(made))
        if one != other:
            often = chance.randrange(prime)
            made[one] = [(a + often * b) % prime for a, b in zip(made[one], made[other])]
    chance.shuffle(made)
    return made


def corner_lists(places):
    """All lists of rising places, the empty one too."""
    return [list(led) for width in range(places + 1) for led in itertools.combinations(range(places), width)]


def some_forms():
    """Rooms with one form for each list of corners, the same ones each time."""
    chance = random.Random(5)
    return [(prime, places, led, some_form(prime, places, led, chance))
            for prime, places in ROOMS for led in corner_lists(places)]
