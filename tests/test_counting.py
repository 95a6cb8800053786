"""How many flats, corners and chains there are, and the numbers of flats: points 11 to 16."""

import itertools
import random
import unittest

from flatroom.counting import beside_many, between, cells, chains, flat_by, how_many, in_cell, number_of
from flatroom.errors import BadNumber, NotInside
from flatroom.meeting import inside, joined, met
from flatroom.tables import tables
from tests.helper import (
    ROOMS, ahead_of, all_chains, all_forms, breaks_form, corner_lists, first_place, flat_of, raised, rows_by_form,
    some_flat, some_forms, whole_room,
)

SMALL = [(2, 1), (2, 2), (2, 3), (2, 4), (3, 1), (3, 2), (3, 3), (5, 1), (5, 2), (5, 3), (7, 2), (31, 1), (31, 2)]


def of_width(prime, places, width):
    """All forms of a width, in the order that point 15 tells."""
    return sorted([flat for flat in all_forms(prime, places) if len(flat) == width], key=ahead_of)


def bases_in(prime, places, width):
    """How many lists of so many rows there are, none of which the ones ahead of it make."""
    many = 1
    for row in range(width):
        many *= prime ** places - prime ** row
    return many


class HowMany(unittest.TestCase):
    def test_all_widths_of_small_rooms(self):
        for prime, places in SMALL:
            known = all_forms(prime, places)
            for width in range(places + 1):
                many = len([flat for flat in known if len(flat) == width])
                self.assertEqual(how_many(prime, places, width), many, (prime, places, width))

    def test_by_hand(self):
        self.assertEqual([how_many(2, 3, width) for width in range(4)], [1, 7, 7, 1])
        self.assertEqual([how_many(2, 4, width) for width in range(5)], [1, 15, 35, 15, 1])
        self.assertEqual([how_many(3, 4, width) for width in range(5)], [1, 40, 130, 40, 1])
        self.assertEqual([how_many(5, 2, width) for width in range(3)], [1, 6, 1])
        self.assertEqual([how_many(31, 1, width) for width in range(2)], [1, 1])

    def test_the_same_from_the_other_side(self):
        for prime, places in ROOMS:
            for width in range(places + 1):
                self.assertEqual(how_many(prime, places, width), how_many(prime, places, places - width))

    def test_each_flat_has_as_many_bases_as_a_room_of_its_width(self):
        for prime, places in ROOMS:
            for width in range(places + 1):
                told = how_many(prime, places, width)
                self.assertIs(type(told), int)
                self.assertEqual(told * bases_in(prime, width, width), bases_in(prime, places, width))

    def test_the_greatest_room(self):
        lines = 1 + 31 + 31 ** 2 + 31 ** 3 + 31 ** 4 + 31 ** 5
        self.assertEqual(how_many(31, 6, 1), lines)
        self.assertEqual(how_many(31, 6, 5), lines)
        self.assertEqual(how_many(31, 6, 3), 27350289686720)
        self.assertEqual([how_many(31, 6, 0), how_many(31, 6, 6)], [1, 1])


class Cells(unittest.TestCase):
    def test_by_hand(self):
        self.assertEqual(cells(5, 3, 0), [[]])
        self.assertEqual(cells(5, 3, 1), [[0], [1], [2]])
        self.assertEqual(cells(5, 3, 2), [[0, 1], [0, 2], [1, 2]])
        self.assertEqual(cells(5, 3, 3), [[0, 1, 2]])
        self.assertEqual(cells(2, 4, 2), [[0, 1], [0, 2], [0, 3], [1, 2], [1, 3], [2, 3]])

    def test_each_room_and_width(self):
        for prime, places in ROOMS:
            for width in range(places + 1):
                expected = [list(led) for led in itertools.combinations(range(places), width)]
                self.assertEqual(cells(prime, places, width), expected)

    def test_just_those_that_flats_have(self):
        for prime, places in SMALL:
            for width in range(places + 1):
                found = {tuple(first_place(row) for row in flat) for flat in of_width(prime, places, width)}
                self.assertEqual(cells(prime, places, width), [list(led) for led in sorted(found)])

    def test_in_cell_of_small_rooms(self):
        for prime, places in SMALL:
            known = [[first_place(row) for row in flat] for flat in all_forms(prime, places)]
            for led in corner_lists(places):
                self.assertEqual(in_cell(prime, places, led), known.count(led), (prime, places, led))

    def test_in_cell_by_hand(self):
        self.assertEqual(in_cell(5, 3, []), 1)
        self.assertEqual(in_cell(5, 3, [0]), 25)
        self.assertEqual(in_cell(5, 3, [2]), 1)
        self.assertEqual(in_cell(5, 3, [0, 2]), 5)
        self.assertEqual(in_cell(5, 3, [0, 1]), 25)
        self.assertEqual(in_cell(31, 6, [0, 1, 2]), 31 ** 9)
        self.assertEqual(in_cell(31, 6, [0, 2, 4]), 31 ** 6)
        self.assertEqual(in_cell(31, 6, [3, 4, 5]), 1)
        self.assertEqual(in_cell(31, 6, list(range(6))), 1)

    def test_all_cells_together_make_how_many(self):
        for prime, places in ROOMS:
            for width in range(places + 1):
                told = [in_cell(prime, places, led) for led in cells(prime, places, width)]
                self.assertEqual(sum(told), how_many(prime, places, width))


class Chains(unittest.TestCase):
    def test_small_rooms(self):
        for prime, places in [(2, 1), (2, 2), (2, 3), (2, 4), (3, 1), (3, 2), (3, 3), (5, 2), (5, 3), (31, 1), (31, 2)]:
            self.assertEqual(chains(prime, places), len(all_chains(prime, places)), (prime, places))

    def test_by_hand(self):
        self.assertEqual([chains(2, places) for places in range(1, 7)], [1, 3, 21, 315, 9765, 615195])

    def test_as_many_tables_have_each_chain(self):
        # The row of each width is any one of that flat that the flat before has not.
        for prime, places in ROOMS:
            many = 1
            for width in range(places):
                many *= prime ** (width + 1) - prime ** width
            self.assertEqual(chains(prime, places) * many, tables(prime, places))
            self.assertEqual(chains(prime, places) * many, bases_in(prime, places, places))

    def test_the_greatest_room(self):
        lines = [sum(31 ** power for power in range(many)) for many in range(1, 7)]
        expected = lines[0] * lines[1] * lines[2] * lines[3] * lines[4] * lines[5]
        self.assertEqual(chains(31, 6), expected)
        self.assertEqual(expected, 27615975214387782942720)


class Numbers(unittest.TestCase):
    def test_all_flats_of_small_rooms_in_order(self):
        for prime, places in SMALL:
            for width in range(places + 1):
                known = of_width(prime, places, width)
                for number, flat in enumerate(known):
                    self.assertEqual(flat_by(prime, places, width, number), flat, (prime, places, width, number))
                    self.assertEqual(number_of(prime, places, flat), number, flat)
                for odd in (-1, len(known), len(known) + 1, -len(known)):
                    self.assertIs(raised(flat_by, prime, places, width, odd), BadNumber)

    def test_by_hand(self):
        planes = [flat_by(2, 3, 2, number) for number in range(7)]
        self.assertEqual(planes, [
            [[1, 0, 0], [0, 1, 0]], [[1, 0, 0], [0, 1, 1]], [[1, 0, 1], [0, 1, 0]], [[1, 0, 1], [0, 1, 1]],
            [[1, 0, 0], [0, 0, 1]], [[1, 1, 0], [0, 0, 1]], [[0, 1, 0], [0, 0, 1]],
        ])
        lines = [flat_by(3, 2, 1, number) for number in range(4)]
        self.assertEqual(lines, [[[1, 0]], [[1, 1]], [[1, 2]], [[0, 1]]])
        self.assertEqual(number_of(5, 3, [[1, 2, 0], [0, 0, 1]]), 27)
        self.assertEqual(flat_by(5, 3, 2, 27), [[1, 2, 0], [0, 0, 1]])

    def test_of_no_rows_and_of_the_whole_room(self):
        for prime, places in ROOMS:
            self.assertEqual(flat_by(prime, places, 0, 0), [])
            self.assertEqual(number_of(prime, places, []), 0)
            self.assertEqual(flat_by(prime, places, places, 0), whole_room(places))
            self.assertEqual(number_of(prime, places, whole_room(places)), 0)

    def test_first_last_and_some_in_the_middle_of_each_room(self):
        chance = random.Random(73)
        for prime, places in ROOMS:
            for width in range(places + 1):
                many = how_many(prime, places, width)
                whole = whole_room(places)
                self.assertEqual(flat_by(prime, places, width, 0), whole[:width])
                self.assertEqual(flat_by(prime, places, width, many - 1), whole[places - width:])
                self.assertEqual(number_of(prime, places, whole[:width]), 0)
                self.assertEqual(number_of(prime, places, whole[places - width:]), many - 1)
                self.assertIs(raised(flat_by, prime, places, width, many), BadNumber)
                for number in sorted(chance.randrange(many) for _ in range(6)):
                    self.held(prime, places, width, number, many)

    def held(self, prime, places, width, number, many):
        flat = flat_by(prime, places, width, number)
        self.assertIsNone(breaks_form(prime, places, flat))
        self.assertEqual(len(flat), width)
        self.assertEqual(number_of(prime, places, flat), number)
        if number + 1 < many:
            self.assertLess(ahead_of(flat), ahead_of(flat_by(prime, places, width, number + 1)))

    def test_the_flat_of_the_number_of_each(self):
        for prime, places, _, flat in some_forms():
            number = number_of(prime, places, flat)
            self.assertIs(type(number), int)
            self.assertEqual(flat_by(prime, places, len(flat), number), flat)

    def test_the_edges_of_the_cells_of_great_rooms(self):
        for prime, places in [(31, 6), (29, 5), (2, 6)]:
            for width in range(places + 1):
                ahead = 0
                for led in itertools.combinations(range(places), width):
                    first = flat_by(prime, places, width, ahead)
                    self.assertEqual(first, [whole_room(places)[corner] for corner in led])
                    ahead += in_cell(prime, places, list(led))
                    last = flat_by(prime, places, width, ahead - 1)
                    free = {place for place in range(places) if place not in led}
                    self.assertEqual(last, [[int(place == corner) or (prime - 1) * (place in free and place > corner)
                                             for place in range(places)] for corner in led])

    def test_the_order_that_is_told(self):
        chance = random.Random(79)
        for prime, places in ROOMS:
            for _ in range(10):
                one, other = some_flat(prime, places, chance), some_flat(prime, places, chance)
                if len(one) == len(other):
                    self.assertIs(number_of(prime, places, one) < number_of(prime, places, other),
                                  ahead_of(one) < ahead_of(other))


class Between(unittest.TestCase):
    def test_small_rooms(self):
        for prime, places in [(2, 1), (2, 2), (2, 3), (3, 2), (3, 3), (5, 2)]:
            known = rows_by_form(prime, places)
            for (low, rows), (high, more) in itertools.product(known, repeat=2):
                if not rows <= more:
                    for width in range(-1, places + 2):
                        self.assertIs(raised(between, prime, places, low, high, width), NotInside)
                    continue
                widths = [len(flat) for flat, middle in known if rows <= middle <= more]
                for width in range(places + 1):
                    told = between(prime, places, low, high, width)
                    self.assertEqual(told, widths.count(width), (low, high, width))

    def test_the_whole_room_is_how_many(self):
        for prime, places in ROOMS:
            for width in range(places + 1):
                told = between(prime, places, [], whole_room(places), width)
                self.assertEqual(told, how_many(prime, places, width))

    def test_widths_that_none_has(self):
        whole = whole_room(6)
        for prime in (2, 31):
            told = [between(prime, 6, whole[:2], whole[:4], width) for width in range(7)]
            self.assertEqual(told, [0, 0, 1, prime + 1, 1, 0, 0])

    def test_of_a_flat_and_itself(self):
        for prime, places, _, flat in some_forms():
            told = [between(prime, places, flat, flat, width) for width in range(places + 1)]
            self.assertEqual(told, [int(width == len(flat)) for width in range(places + 1)])

    def test_by_chance_in_each_room(self):
        chance = random.Random(83)
        for prime, places in ROOMS:
            one, other = some_flat(prime, places, chance), some_flat(prime, places, chance)
            low, high = met(prime, places, one, other), joined(prime, places, one, other)
            for width in range(len(low), len(high) + 1):
                told = between(prime, places, low, high, width)
                self.assertEqual(told * bases_in(prime, width - len(low), width - len(low)),
                                 bases_in(prime, len(high) - len(low), width - len(low)))
            if low != high:
                self.assertIs(raised(between, prime, places, high, low, 0), NotInside)


class BesideMany(unittest.TestCase):
    def test_small_rooms(self):
        for prime, places in [(2, 1), (2, 2), (2, 3), (3, 2), (3, 3), (5, 2), (2, 4)]:
            known = rows_by_form(prime, places)
            noughts = {(0,) * places}
            for flat, rows in known:
                # Those that meet in nothing and have as many rows together as the room make the room.
                found = [other for other, more in known
                         if rows & more == noughts and len(rows) * len(more) == prime ** places]
                self.assertEqual(beside_many(prime, places, flat), len(found), flat)

    def test_by_hand(self):
        for prime, places in ROOMS:
            self.assertEqual(beside_many(prime, places, []), 1)
            self.assertEqual(beside_many(prime, places, whole_room(places)), 1)
        self.assertEqual(beside_many(31, 6, whole_room(6)[3:]), 31 ** 9)
        self.assertEqual(beside_many(2, 3, [[1, 0, 1]]), 4)

    def test_as_many_beside_what_lies_beside(self):
        # Pairs of a flat and one beside it are the same, whichever stands first.
        for prime, places, _, flat in some_forms()[::7]:
            width = len(flat)
            pairs = how_many(prime, places, width) * beside_many(prime, places, flat)
            self.assertEqual(pairs * bases_in(prime, width, width) * bases_in(prime, places - width, places - width),
                             tables(prime, places))


class AllTogether(unittest.TestCase):
    def test_flats_by_number_lie_as_they_are_counted(self):
        low, high = [[1, 1, 0, 2]], [[1, 0, 0, 1], [0, 1, 0, 1], [0, 0, 1, 0]]
        self.assertTrue(flat_of(3, 4, low) <= flat_of(3, 4, high))
        for width in range(5):
            flats = [flat_by(3, 4, width, number) for number in range(how_many(3, 4, width))]
            found = [flat for flat in flats if inside(3, 4, low, flat) and inside(3, 4, flat, high)]
            self.assertEqual(between(3, 4, low, high, width), len(found))


if __name__ == "__main__":
    unittest.main()
