"""Rooms, rows, and how rows are put together: points 2 and 3."""

import random
import unittest

from flatroom.errors import BadRoom
from flatroom.rows import are_rows, check_room, inverse, is_number, is_row, put_together
from tests.helper import PRIMES, ROOMS, no_numbers, raised, together


class Rooms(unittest.TestCase):
    def test_each_room_is_taken(self):
        for prime, places in ROOMS:
            self.assertIsNone(check_room(prime, places))

    def test_just_the_primes_to_31_are_taken(self):
        taken = [number for number in range(-40, 200) if raised(check_room, number, 3) is None]
        self.assertEqual(taken, PRIMES)

    def test_just_the_places_from_1_to_6_are_taken(self):
        taken = [number for number in range(-40, 200) if raised(check_room, 7, number) is None]
        self.assertEqual(taken, [1, 2, 3, 4, 5, 6])

    def test_other_kinds_are_refused(self):
        for odd in no_numbers() + [[], [2], [[2]]]:
            self.assertIs(raised(check_room, odd, 3), BadRoom)
            self.assertIs(raised(check_room, 3, odd), BadRoom)


class Rows(unittest.TestCase):
    def test_numbers_are_whole_numbers_but_not_true_and_false(self):
        for number in (0, 1, -1, 10 ** 40, -10 ** 40):
            self.assertTrue(is_number(number))
        for odd in no_numbers() + [[], [1]]:
            self.assertFalse(is_number(odd))

    def test_a_row_has_a_number_for_each_place(self):
        for prime, places in ROOMS:
            self.assertTrue(is_row(prime, places, [0] * places))
            self.assertTrue(is_row(prime, places, [prime - 1] * places))
            self.assertFalse(is_row(prime, places, [0] * (places + 1)))
            self.assertFalse(is_row(prime, places, [0] * (places - 1)))

    def test_a_number_beyond_the_room_makes_no_row(self):
        for prime, places in ROOMS:
            for place in range(places):
                for number in (prime, prime + 1, -1, -prime, 10 ** 30, True, False, None, "0", [0]):
                    row = [0] * places
                    row[place] = number
                    self.assertFalse(is_row(prime, places, row))

    def test_no_more_rows_than_told(self):
        self.assertTrue(are_rows(2, 1, [[0]] * 4, 4))
        self.assertFalse(are_rows(2, 1, [[0]] * 5, 4))


class Together(unittest.TestCase):
    def test_by_hand(self):
        self.assertEqual(put_together(5, 3, [2, 3], [[1, 4, 0], [2, 1, 3]]), [3, 1, 4])
        self.assertEqual(put_together(7, 2, [-1], [[3, 0]]), [4, 0])

    def test_no_rows_make_the_row_of_noughts(self):
        for prime, places in ROOMS:
            self.assertEqual(put_together(prime, places, [], []), [0] * places)

    def test_in_each_room(self):
        chance = random.Random(3)
        for prime, places in ROOMS:
            rows = [[chance.randrange(prime) for _ in range(places)] for _ in range(5)]
            shares = [chance.randrange(-2 * prime, 2 * prime) for _ in rows]
            self.assertEqual(put_together(prime, places, shares, rows), together(prime, places, shares, rows))

    def test_the_inverse_makes_1(self):
        for prime in PRIMES:
            for number in range(1, prime):
                found = inverse(prime, number)
                self.assertEqual(found * number % prime, 1)
                self.assertTrue(1 <= found < prime)


if __name__ == "__main__":
    unittest.main()
