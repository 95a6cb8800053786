"""Tables, what they turn rows and flats to, one behind the other and undone: points 11, 17, 18 and 19."""

import itertools
import random
import unittest

from flatroom.errors import BadTable
from flatroom.meeting import joined, met
from flatroom.tables import behind, row_turned, tables, turned_by, undone
from tests.helper import (
    ROOMS, all_forms, all_rows, all_tables, breaks_form, first_place, flat_of, raised, some_flat, some_table, together,
    turned_rows, whole_room,
)

SMALL = [(2, 1), (2, 2), (3, 1), (3, 2), (5, 1), (7, 1), (31, 1)]


class Which(unittest.TestCase):
    def test_all_lists_of_rows_of_small_rooms(self):
        for prime, places in [(2, 1), (2, 2), (3, 1), (3, 2)]:
            known = all_tables(prime, places)
            for many in range(places + 2):
                for rows in itertools.product(all_rows(prime, places), repeat=many):
                    expected = None if list(rows) in known else BadTable
                    self.assertIs(raised(undone, prime, places, list(rows)), expected, rows)

    def test_rows_too_many_too_few_or_made_by_others(self):
        chance = random.Random(89)
        for prime, places in ROOMS:
            table = some_table(prime, places, chance)
            made = together(prime, places, [chance.randrange(prime) for _ in table[1:]], table[1:])
            for odd in (table[1:], table[:-1], table + [table[0]], [made] + table[1:], [[0] * places] + table[1:]):
                self.assertIs(raised(undone, prime, places, odd), BadTable)
                self.assertIs(raised(turned_by, prime, places, odd, []), BadTable)
                self.assertIs(raised(behind, prime, places, table, odd), BadTable)
                self.assertIs(raised(behind, prime, places, odd, table), BadTable)

    def test_how_many(self):
        for prime, places in [(2, 1), (2, 2), (2, 3), (3, 1), (3, 2), (5, 2), (31, 1)]:
            self.assertEqual(tables(prime, places), len(all_tables(prime, places)))

    def test_how_many_by_hand(self):
        self.assertEqual([tables(2, places) for places in range(1, 7)], [1, 6, 168, 20160, 9999360, 20158709760])
        self.assertEqual(tables(3, 3), 26 * 24 * 18)
        whole = 31 ** 6
        self.assertEqual(tables(31, 6), (whole - 1) * (whole - 31) * (whole - 31 ** 2) * (whole - 31 ** 3)
                         * (whole - 31 ** 4) * (whole - 31 ** 5))


class RowsAndFlats(unittest.TestCase):
    def test_by_hand(self):
        table = [[0, 1, 0], [0, 0, 1], [2, 0, 0]]
        self.assertEqual(row_turned(5, 3, table, [1, 0, 0]), [0, 1, 0])
        self.assertEqual(row_turned(5, 3, table, [1, 2, 3]), [1, 1, 2])
        self.assertEqual(row_turned(5, 3, table, [0, 0, 0]), [0, 0, 0])
        self.assertEqual(turned_by(5, 3, table, [[1, 0, 0]]), [[0, 1, 0]])
        self.assertEqual(turned_by(5, 3, table, [[1, 0, 3], [0, 1, 2]]), [[1, 0, 4], [0, 1, 1]])
        self.assertEqual(row_turned(2, 2, [[1, 1], [0, 1]], [1, 0]), [1, 1])

    def test_rows_of_small_rooms(self):
        for prime, places in SMALL:
            for table in all_tables(prime, places):
                rows = all_rows(prime, places)
                told = [row_turned(prime, places, table, row) for row in rows]
                self.assertEqual(told, [together(prime, places, row, table) for row in rows])
                # No two rows are turned to the same one.
                self.assertEqual(sorted(told), rows)

    def test_flats_of_small_rooms(self):
        for prime, places in SMALL:
            known = [(flat, flat_of(prime, places, flat)) for flat in all_forms(prime, places)]
            for table in all_tables(prime, places):
                for flat, rows in known:
                    told = turned_by(prime, places, table, flat)
                    self.assertIsNone(breaks_form(prime, places, told))
                    self.assertEqual(flat_of(prime, places, told), turned_rows(prime, places, table, rows))

    def test_each_room(self):
        chance = random.Random(97)
        for prime, places in ROOMS:
            for _ in range(5):
                table, flat = some_table(prime, places, chance), some_flat(prime, places, chance)
                row = [chance.randrange(prime) for _ in range(places)]
                self.assertEqual(row_turned(prime, places, table, row), together(prime, places, row, table))
                told = turned_by(prime, places, table, flat)
                self.assertIsNone(breaks_form(prime, places, told))
                self.assertEqual(len(told), len(flat))
                inner = together(prime, places, [chance.randrange(prime) for _ in flat], flat)
                moved = row_turned(prime, places, table, inner)
                self.assertEqual(together(prime, places, [moved[first_place(own)] for own in told], told), moved)

    def test_the_rows_of_the_room_itself_turn_nothing(self):
        chance = random.Random(101)
        for prime, places in ROOMS:
            flat, row = some_flat(prime, places, chance), [chance.randrange(prime) for _ in range(places)]
            self.assertEqual(turned_by(prime, places, whole_room(places), flat), flat)
            self.assertEqual(row_turned(prime, places, whole_room(places), row), row)

    def test_no_rows_and_the_whole_room_stay(self):
        chance = random.Random(103)
        for prime, places in ROOMS:
            table = some_table(prime, places, chance)
            self.assertEqual(turned_by(prime, places, table, []), [])
            self.assertEqual(turned_by(prime, places, table, whole_room(places)), whole_room(places))

    def test_joined_and_met_are_turned_with_the_flats(self):
        chance = random.Random(107)
        for prime, places in ROOMS:
            for _ in range(5):
                table = some_table(prime, places, chance)
                one, other = some_flat(prime, places, chance), some_flat(prime, places, chance)
                moved = [turned_by(prime, places, table, flat) for flat in (one, other)]
                for made in (joined, met):
                    self.assertEqual(turned_by(prime, places, table, made(prime, places, one, other)),
                                     made(prime, places, *moved))


class BehindAndUndone(unittest.TestCase):
    def test_behind_by_hand(self):
        one, other = [[0, 1], [1, 0]], [[1, 1], [0, 1]]
        self.assertEqual(behind(3, 2, one, other), [[0, 1], [1, 1]])
        self.assertEqual(behind(3, 2, other, one), [[1, 1], [1, 0]])
        self.assertEqual(undone(3, 2, other), [[1, 2], [0, 1]])
        self.assertEqual(undone(7, 1, [[3]]), [[5]])

    def test_behind_in_small_rooms(self):
        for prime, places in [(2, 1), (2, 2), (3, 1), (5, 1), (3, 2)]:
            known = all_tables(prime, places)
            for one, other in itertools.product(known, repeat=2):
                told = behind(prime, places, one, other)
                self.assertIn(told, known)
                for row in whole_room(places) + [[1] * places, [prime - 1] + [1] * (places - 1)]:
                    first = together(prime, places, row, one)
                    self.assertEqual(together(prime, places, row, told), together(prime, places, first, other))

    def test_undone_in_small_rooms(self):
        for prime, places in [*SMALL, (2, 3), (5, 2)]:
            known = all_tables(prime, places)
            for table in known:
                self.assertEqual(self.undoes(prime, places, table, undone(prime, places, table)), None)

    def undoes(self, prime, places, table, told):
        """What point 19 asks of a table undone that this breaks, None if nothing."""
        if [type(row) for row in told] != [list] * places or [len(row) for row in told] != [places] * places:
            return "not a list of as many rows as places"
        if any(type(number) is not int or not 0 <= number < prime for row in told for number in row):
            return "not numbers of the room"
        for row in whole_room(places):
            if together(prime, places, together(prime, places, row, table), told) != row:
                return "does not undo it"
            if together(prime, places, together(prime, places, row, told), table) != row:
                return "is not undone by it"
        return None

    def test_each_room(self):
        chance = random.Random(109)
        for prime, places in ROOMS:
            for _ in range(5):
                one, other = some_table(prime, places, chance), some_table(prime, places, chance)
                flat, row = some_flat(prime, places, chance), [chance.randrange(prime) for _ in range(places)]
                told = behind(prime, places, one, other)
                first = row_turned(prime, places, one, row)
                self.assertEqual(row_turned(prime, places, told, row), row_turned(prime, places, other, first))
                first = turned_by(prime, places, one, flat)
                self.assertEqual(turned_by(prime, places, told, flat), turned_by(prime, places, other, first))
                back = undone(prime, places, one)
                self.assertIsNone(self.undoes(prime, places, one, back))
                self.assertEqual(behind(prime, places, one, back), whole_room(places))
                self.assertEqual(behind(prime, places, back, one), whole_room(places))
                self.assertEqual(undone(prime, places, back), one)
                self.assertEqual(undone(prime, places, told),
                                 behind(prime, places, undone(prime, places, other), back))


if __name__ == "__main__":
    unittest.main()
