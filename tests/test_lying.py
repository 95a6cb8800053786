"""Rows in flats and across them: points 6, 7 and 8."""

import random
import unittest

from flatroom.answers import Barred, Within
from flatroom.crossing import is_nought
from flatroom.forms import form
from flatroom.lying import across, lies
from flatroom.rows import makes
from tests.helper import (
    PRIMES, ROOMS, all_rows, breaks_form, flat_of, rows_by_form, some_forms, together, two_make, whole_room,
)

SMALL = [(2, 1), (2, 2), (2, 3), (2, 4), (3, 1), (3, 2), (3, 3), (5, 1), (5, 2), (31, 1)]


class Makes(unittest.TestCase):
    def test_by_hand(self):
        self.assertEqual(makes(5, [1, 2, 3], [4, 0, 2]), 0)
        self.assertEqual(makes(7, [1, 2, 3], [4, 0, 2]), 3)
        self.assertEqual(makes(2, [1, 1], [1, 1]), 0)
        self.assertEqual(makes(31, [30], [30]), 1)

    def test_in_each_room(self):
        chance = random.Random(23)
        for prime, places in ROOMS:
            one, other = [[chance.randrange(prime) for _ in range(places)] for _ in range(2)]
            self.assertEqual(makes(prime, one, other), two_make(prime, one, other))
            self.assertEqual(makes(prime, one, [0] * places), 0)

    def test_nought_on_a_flat(self):
        for prime, places in [(2, 3), (3, 2)]:
            for flat, rows in rows_by_form(prime, places):
                for row in all_rows(prime, places):
                    expected = all(two_make(prime, row, own) == 0 for own in rows)
                    self.assertIs(is_nought(prime, flat, row), expected, (prime, flat, row))


class Lies(unittest.TestCase):
    def held(self, prime, places, flat, row):
        """Hold what is told to the words of point 7; whether it is Within."""
        told = lies(prime, places, flat, row)
        if type(told) is Within:
            self.held_numbers(prime, told.shares, len(flat))
            self.assertEqual(together(prime, places, told.shares, flat), row)
        else:
            self.assertIs(type(told), Barred)
            self.held_numbers(prime, told.cross, places)
            self.assertEqual([two_make(prime, told.cross, own) for own in flat], [0] * len(flat))
            self.assertNotEqual(two_make(prime, told.cross, row), 0)
        self.assertIs(told.shows(prime, places, flat, row), True)
        return type(told) is Within

    def held_numbers(self, prime, told, many):
        self.assertIs(type(told), list)
        self.assertEqual(len(told), many)
        self.assertTrue(all(type(number) is int and 0 <= number < prime for number in told), told)

    def test_by_hand(self):
        told = lies(5, 3, [[1, 2, 0], [0, 0, 1]], [3, 1, 4])
        self.assertIs(type(told), Within)
        self.assertEqual(told.shares, [3, 4])
        told = lies(5, 3, [[1, 2, 0], [0, 0, 1]], [3, 2, 4])
        self.assertIs(type(told), Barred)
        self.assertTrue(self.held(5, 3, [[1, 2, 0], [0, 0, 1]], [3, 1, 4]))
        self.assertFalse(self.held(5, 3, [[1, 2, 0], [0, 0, 1]], [3, 2, 4]))

    def test_small_rooms_through_and_through(self):
        for prime, places in SMALL:
            for flat, rows in rows_by_form(prime, places):
                for row in all_rows(prime, places):
                    self.assertIs(self.held(prime, places, flat, row), tuple(row) in rows, (prime, flat, row))

    def test_each_room_with_all_corners(self):
        chance = random.Random(29)
        for prime, places, led, flat in some_forms():
            shares = [chance.randrange(prime) for _ in flat]
            row = together(prime, places, shares, flat)
            self.assertTrue(self.held(prime, places, flat, row))
            self.assertEqual(lies(prime, places, flat, row).shares, shares)
            for place in range(places):
                if place not in led:
                    beyond = list(row)
                    beyond[place] = (row[place] + chance.randrange(1, prime)) % prime
                    self.assertFalse(self.held(prime, places, flat, beyond))

    def test_the_flat_of_no_rows_has_the_row_of_noughts_alone(self):
        for prime, places in ROOMS:
            self.assertTrue(self.held(prime, places, [], [0] * places))
            self.assertEqual(lies(prime, places, [], [0] * places).shares, [])
            self.assertFalse(self.held(prime, places, [], [0] * (places - 1) + [prime - 1]))
            self.assertFalse(self.held(prime, places, [], [1] * places))

    def test_the_whole_room_has_all_rows(self):
        chance = random.Random(31)
        for prime, places in ROOMS:
            for _ in range(5):
                row = [chance.randrange(prime) for _ in range(places)]
                self.assertTrue(self.held(prime, places, whole_room(places), row))
                self.assertEqual(lies(prime, places, whole_room(places), row).shares, row)

    def test_the_row_of_noughts_lies_in_each_flat(self):
        for prime, places, _, flat in some_forms():
            self.assertTrue(self.held(prime, places, flat, [0] * places))
            self.assertEqual(lies(prime, places, flat, [0] * places).shares, [0] * len(flat))


class Across(unittest.TestCase):
    def held(self, prime, places, flat):
        """Hold what is told to what point 8 and the counts of rows ask."""
        told = across(prime, places, flat)
        self.assertIsNone(breaks_form(prime, places, told))
        self.assertEqual(len(told), places - len(flat))
        for row in told:
            self.assertEqual([two_make(prime, row, own) for own in flat], [0] * len(flat))
        self.assertEqual(across(prime, places, told), flat)
        return told

    def test_by_hand(self):
        self.assertEqual(across(5, 3, [[1, 2, 0], [0, 0, 1]]), [[1, 2, 0]])
        self.assertEqual(across(7, 3, [[1, 2, 4]]), [[1, 0, 5], [0, 1, 3]])
        self.assertEqual(across(3, 2, [[0, 1]]), [[1, 0]])

    def test_a_flat_may_lie_across_itself(self):
        self.assertEqual(across(2, 2, [[1, 1]]), [[1, 1]])
        self.assertEqual(across(5, 2, [[1, 2]]), [[1, 2]])

    def test_of_no_rows_and_of_the_whole_room(self):
        for prime, places in ROOMS:
            self.assertEqual(self.held(prime, places, []), whole_room(places))
            self.assertEqual(self.held(prime, places, whole_room(places)), [])

    def test_small_rooms_through_and_through(self):
        for prime, places in SMALL:
            for flat, rows in rows_by_form(prime, places):
                told = self.held(prime, places, flat)
                nought = {tuple(row) for row in all_rows(prime, places)
                          if all(two_make(prime, row, own) == 0 for own in rows)}
                self.assertEqual(flat_of(prime, places, told), nought, (prime, flat))

    def test_each_room_with_all_corners(self):
        for prime, places, _, flat in some_forms():
            self.held(prime, places, flat)

    def test_of_one_row_with_each_number(self):
        for prime in PRIMES:
            for number in range(1, prime):
                told = self.held(prime, 2, [[1, number]])
                self.assertEqual(told, form(prime, 2, [[prime - number, 1]]))


if __name__ == "__main__":
    unittest.main()
