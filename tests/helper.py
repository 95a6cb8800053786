"""What several tests need: rooms, odd values, and flats worked out by the document's words alone."""

import itertools
import random

PRIMES = [2, 3, 5, 7, 11, 13, 17, 19, 23, 29, 31]
ROOMS = [(prime, places) for prime in PRIMES for places in range(1, 7)]
NO_PRIMES = [0, 1, -1, -2, -7, 4, 6, 8, 9, 15, 21, 25, 27, 30, 32, 33, 35, 37, 41, 127, 2 ** 61 - 1, 10 ** 50]
NO_COUNTS = [0, -1, -6, 7, 8, 10 ** 50]


class Hostile:
    """Refuses to be compared, counted or tested, so that only its kind can be asked for."""

    def __eq__(self, other):
        raise RuntimeError("compared")

    def __lt__(self, other):
        raise RuntimeError("compared")

    __le__ = __gt__ = __ge__ = __ne__ = __lt__
    __hash__ = None

    def __len__(self):
        raise RuntimeError("counted")

    def __bool__(self):
        raise RuntimeError("tested")

    def __iter__(self):
        raise RuntimeError("iterated")


def holding_itself():
    """A list that holds itself and nothing else."""
    ring = []
    ring.append(ring)
    return ring


def no_numbers():
    """Values of many kinds, none of which is a whole number, a number with a point or a list."""
    return [
        None, True, False, "", "2", "12", b"", b"\x01", (), (1,), (1, 0), {}, {0: 1}, set(), {1},
        frozenset([1]), range(2), iter([1]), object(), Hostile(), int, list, len, lambda: 1, ValueError("x"),
    ]


def no_rows_of_five():
    """What is no row with two places over 5."""
    wrong_numbers = [-1, 5, 6, -5, 10 ** 40, True, False, None, "1", "", b"1", [1], [], (1,), {}, object(), Hostile()]
    return (
        no_numbers()
        + [0, 1, -3, [], [1], [1, 0, 0], [[1, 0]], holding_itself(), [1, holding_itself()]]
        + [[odd, 0] for odd in wrong_numbers]
        + [[1, odd] for odd in wrong_numbers]
    )


def no_lists():
    """What is no list at all."""
    return no_numbers() + [0, 1, 2, -1, 10 ** 40, "01", ((1, 0),), ([1, 0],), {0: [1, 0]}, iter([[1, 0]])]


def no_forms_of_five():
    """What is no form of a flat with two places over 5."""
    return (
        no_lists()
        + [[odd] for odd in no_rows_of_five()]
        + [[[1, 0], odd] for odd in no_rows_of_five()]
        + [[[0, 0]], [[2, 0]], [[0, 4]], [[1, 0], [0, 2]], [[1, 3], [0, 1]], [[0, 1], [1, 0]], [[1, 0], [1, 0]]]
        + [[[1, 0], [0, 0]], [[0, 0], [0, 1]], [[1, 0], [0, 1], [0, 0]], [[1, 0], [0, 1]] * 20]
    )


def raised(function, *told):
    """The class of what the call raises, or None if it raises nothing."""
    try:
        function(*told)
    except Exception as error:
        return type(error)
    return None


def spoil(rows):
    """Change the list and each list within it."""
    for row in rows:
        row[0] = 99
        row.append(98)
    rows.append([97])


def together(prime, places, shares, rows):
    """Rows put together as point 3 tells, one step after the other."""
    made = [0] * places
    for share, row in zip(shares, rows):
        for place in range(places):
            made[place] = (made[place] + share * row[place]) % prime
    return made


def all_rows(prime, places):
    """Each row of the room."""
    return [list(row) for row in itertools.product(range(prime), repeat=places)]


def flat_of(prime, places, rows):
    """Each row of the flat of some rows as point 4 tells, by trying all shares."""
    return {
        tuple(together(prime, places, shares, rows))
        for shares in itertools.product(range(prime), repeat=len(rows))
    }


def first_place(row):
    """The place of a row's first number but 0, None if it has none."""
    return next((place for place, number in enumerate(row) if number), None)


def breaks_form(prime, places, flat):
    """What point 5 asks of a form that this breaks, in words; None if it breaks nothing."""
    if type(flat) is not list or any(type(row) is not list for row in flat):
        return "not a list of lists"
    if any(type(number) is not int or not 0 <= number < prime for row in flat for number in row):
        return "not numbers of the room"
    if any(len(row) != places for row in flat):
        return "not rows of the room"
    found = [first_place(row) for row in flat]
    if None in found:
        return "a row of noughts"
    if any(row[place] != 1 for row, place in zip(flat, found)):
        return "a first number that is not 1"
    if any(one >= other for one, other in zip(found, found[1:])):
        return "corners that do not rise"
    if any(row[place] for row in flat for place in found if place != first_place(row)):
        return "another number than 0 at another row's corner"
    return None


def some_form(prime, places, led, chance):
    """A form with these corners, its free numbers by chance."""
    flat = []
    for corner in led:
        row = [0] * corner + [1] + [chance.randrange(prime) for _ in range(corner + 1, places)]
        for other in led:
            if other > corner:
                row[other] = 0
        flat.append(row)
    return flat


def mixed(prime, rows, chance):
    """Rows of the same flat: multiplied, put together and swapped in ways that can be undone."""
    made = [[number * factor % prime for number in row]
            for row, factor in ((row, chance.randrange(1, prime)) for row in rows)]
    for _ in range(4 * len(made)):
        one, other = chance.randrange(len(made)), chance.randrange(len(made))
        if one != other:
            often = chance.randrange(prime)
            made[one] = [(a + often * b) % prime for a, b in zip(made[one], made[other])]
    chance.shuffle(made)
    return made


def corner_lists(places):
    """All lists of rising places, the empty one too."""
    return [list(led) for width in range(places + 1) for led in itertools.combinations(range(places), width)]


def some_forms():
    """Rooms with one form for each list of corners, the same ones each time."""
    chance = random.Random(5)
    return [(prime, places, led, some_form(prime, places, led, chance))
            for prime, places in ROOMS for led in corner_lists(places)]


def whole_room(places):
    """The form of the whole room."""
    return [[int(at == place) for at in range(places)] for place in range(places)]


def forms_with(prime, places, led):
    """All forms with these corners."""
    free = [(at, place) for at, corner in enumerate(led) for place in range(corner + 1, places) if place not in led]
    made = []
    for numbers in itertools.product(range(prime), repeat=len(free)):
        flat = [[int(place == corner) for place in range(places)] for corner in led]
        for (at, place), number in zip(free, numbers):
            flat[at][place] = number
        made.append(flat)
    return made


def all_forms(prime, places):
    """All forms of the room."""
    return [flat for led in corner_lists(places) for flat in forms_with(prime, places, led)]


def rows_by_form(prime, places):
    """Pairs of each form of the room and all rows of its flat."""
    return [(flat, frozenset(flat_of(prime, places, flat))) for flat in all_forms(prime, places)]


def two_make(prime, one, other):
    """What two rows make together as point 6 tells, one step after the other."""
    made = 0
    for number, by in zip(one, other, strict=True):
        made = (made + number * by) % prime
    return made


def some_bases(seed):
    """Rooms, each with rows whose flat is the whole room, and some pairs of lists of places to pick rows by."""
    chance = random.Random(seed)
    made = []
    for prime, places in ROOMS:
        base = mixed(prime, whole_room(places), chance)
        for _ in range(10):
            one, other = [chance.sample(range(places), chance.randint(0, places)) for _ in range(2)]
            made.append((prime, places, base, one, other))
            made.append((prime, places, base, one, one[:chance.randint(0, places)]))
    return made


def picked(base, places):
    """The rows of a base at these places."""
    return [base[place] for place in places]


def width_of(prime, rows):
    """The width of a flat of so many rows: how often the prime goes into their count."""
    width = 0
    while prime ** width < len(rows):
        width += 1
    return width


def widths_by_rows(prime, places, flats):
    """The widths of one, two or three flats as point 20 tells, by all rows of each."""
    rows = [flat_of(prime, places, flat) for flat in flats]
    if len(flats) == 1:
        made = []
    elif len(flats) == 2:
        made = [rows[0] & rows[1]]
    else:
        one, two, three = rows
        last_two = flat_of(prime, places, base_of(prime, places, flats[1:]))
        all_three = flat_of(prime, places, base_of(prime, places, flats))
        made = [one & two, one & three, two & three, one & two & three, one & last_two, all_three]
    return [width_of(prime, each) for each in rows + made]


def base_of(prime, places, flats):
    """Rows of the flats, none of which the ones ahead of it make, so that few are left to put together."""
    kept, made = [], {(0,) * places}
    for row in [row for flat in flats for row in flat]:
        if tuple(row) not in made:
            kept.append(row)
            made = flat_of(prime, places, kept)
    return kept


def all_chains(prime, places):
    """All chains of the room."""
    chains = [[[]]]
    known = rows_by_form(prime, places)
    for width in range(1, places + 1):
        wide = [(flat, rows) for flat, rows in known if len(flat) == width]
        chains = [chain + [flat] for chain in chains for flat, rows in wide
                  if flat_of(prime, places, chain[-1]) <= rows]
    return chains


def number_lists(numbers, longest):
    """All lists of these numbers that are no longer than told."""
    return [list(told) for many in range(longest + 1) for told in itertools.product(numbers, repeat=many)]


def all_tables(prime, places):
    """All tables of the room, by trying all lists of as many rows as places."""
    return [list(rows) for rows in itertools.product(all_rows(prime, places), repeat=places)
            if len(flat_of(prime, places, list(rows))) == prime ** places]


def some_table(prime, places, chance):
    """A table by chance."""
    return mixed(prime, whole_room(places), chance)


def some_flat(prime, places, chance):
    """A form by chance, of any width."""
    return some_form(prime, places, sorted(chance.sample(range(places), chance.randint(0, places))), chance)


def turned_rows(prime, places, table, rows):
    """All these rows turned as point 18 tells, one by one."""
    return {tuple(together(prime, places, row, table)) for row in rows}


def ahead_of(flat):
    """What point 15 puts flats of one width in order by: corners, then the rows one behind the other."""
    return [first_place(row) for row in flat], [number for row in flat for number in row]


def deep_list():
    """A list within a list within a list, far deeper than calls can go."""
    deep = []
    for _ in range(100000):
        deep = [deep]
    return deep


def odd_numbers():
    """What is no whole number at all."""
    return no_numbers() + [[], [1], [[1]], holding_itself()]


def no_widths_of_two():
    """What is no width with two places."""
    return odd_numbers() + [-1, -2, -3, 3, 4, 6, 10 ** 40, -10 ** 40]


def no_corners_of_two():
    """What is no list of rising places with two places."""
    wrong_places = odd_numbers() + [-1, -2, 2, 3, 10 ** 40, -10 ** 40]
    return (
        no_lists()
        + [[odd] for odd in wrong_places] + [[0, odd] for odd in wrong_places] + [[odd, 1] for odd in wrong_places]
        + [[0, 0], [1, 1], [1, 0], [0, 1, 0], [0, 1, 1], [0, 0, 1], [0, 1, 2], [-1, 0, 1], [0] * 5000]
    )


def no_tables_of_five():
    """What is no table with two places over 5."""
    wrong_rows = no_rows_of_five()
    return (
        no_lists() + [deep_list()]
        + [[odd, [1, 0]] for odd in wrong_rows] + [[[0, 1], odd] for odd in wrong_rows]
        + [[], [[1, 0]], [[0, 0], [0, 0]], [[1, 0], [0, 0]], [[1, 0], [1, 0]], [[1, 2], [3, 1]], [[2, 4], [1, 2]]]
        + [[[1, 0], [0, 1], [0, 0]], [[1, 0], [0, 1], [1, 1]], [[1, 0], [0, 1]] * 500, [[1, 0, 0], [0, 1, 0]]]
        + [whole_room(1), whole_room(3)]
    )


def no_chains_of_five():
    """What is no chain with two places over 5."""
    line, whole = [[1, 2]], whole_room(2)
    odd_flats = no_forms_of_five()
    return (
        no_lists() + [deep_list()]
        + [[odd, line, whole] for odd in odd_flats] + [[[], odd, whole] for odd in odd_flats]
        + [[[], line, odd] for odd in odd_flats]
        + [[], [[]], [whole], [line], line, whole, [[], line], [line, whole], [[], whole], [[], [], line, whole]]
        + [[whole, line, []], [line, [], whole], [[], whole, line], [[], [], whole], [[], line, line]]
        + [[[], line, line, whole], [[], line, whole, whole], [[], line, whole, []], [[], whole, whole]]
        + [[[], line, whole] * 300, [[], [[1, 0, 0]], whole_room(3)], [[], [[1]]]]
    )


def no_flat_lists_of_five(counts):
    """What is no list of as many flats with two places over 5 as one of the counts."""
    line = [[1, 2]]
    wrong_counts = [[line] * many for many in range(8) if many not in counts] + [[[]] * 1000]
    wrong_flats = [[line] * at + [odd] + [line] * (many - at - 1)
                   for many in counts for at in range(many) for odd in no_forms_of_five()]
    return no_lists() + [line, deep_list()] + wrong_counts + wrong_flats
