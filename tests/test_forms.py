"""The one form of each flat, and its corners: points 4 and 5, and what is refused."""

import copy
import itertools
import random
import unittest

from flatroom.errors import BadFlat, BadRoom, BadRow
from flatroom.forms import corners, form
from tests.helper import (
    NO_COUNTS, NO_PRIMES, PRIMES, ROOMS, all_rows, breaks_form, corner_lists, flat_of, holding_itself, mixed, no_lists,
    no_numbers, no_rows_of_five, raised, some_form, some_forms, spoil, together,
)


class FormByHand(unittest.TestCase):
    def test_of_no_rows(self):
        for prime, places in ROOMS:
            self.assertEqual(form(prime, places, []), [])

    def test_of_noughts_alone(self):
        for prime, places in ROOMS:
            for many in (1, 2, 20):
                self.assertEqual(form(prime, places, [[0] * places for _ in range(many)]), [])

    def test_of_one_row_whose_first_number_is_not_1(self):
        self.assertEqual(form(5, 3, [[0, 2, 4]]), [[0, 1, 2]])
        self.assertEqual(form(7, 3, [[3, 0, 1]]), [[1, 0, 5]])
        self.assertEqual(form(31, 2, [[30, 1]]), [[1, 30]])
        self.assertEqual(form(3, 1, [[2]]), [[1]])

    def test_of_one_row_each_multiple_of_it(self):
        for prime, places in ROOMS:
            row = [0] * (places // 2) + [1] + [prime - 1] * (places - places // 2 - 1)
            for often in range(1, prime):
                multiple = [number * often % prime for number in row]
                self.assertEqual(form(prime, places, [multiple]), [row])

    def test_of_several_rows(self):
        self.assertEqual(form(5, 3, [[2, 4, 1], [1, 2, 4]]), [[1, 2, 0], [0, 0, 1]])
        self.assertEqual(form(3, 4, [[1, 1, 0, 2], [2, 2, 1, 0]]), [[1, 1, 0, 2], [0, 0, 1, 2]])
        self.assertEqual(form(2, 3, [[0, 1, 1], [1, 0, 1], [1, 1, 0]]), [[1, 0, 1], [0, 1, 1]])
        self.assertEqual(form(2, 2, [[1, 1], [0, 1]]), [[1, 0], [0, 1]])

    def test_a_late_row_may_have_the_first_corner(self):
        self.assertEqual(form(7, 3, [[0, 0, 3], [0, 2, 1], [4, 1, 1]]), [[1, 0, 0], [0, 1, 0], [0, 0, 1]])

    def test_the_whole_room(self):
        for prime, places in ROOMS:
            whole = [[int(at == place) for at in range(places)] for place in range(places)]
            self.assertEqual(form(prime, places, whole[::-1]), whole)


class FormOfEachFlat(unittest.TestCase):
    def test_small_rooms_through_and_through(self):
        counts = {(2, 1): 2, (2, 2): 5, (2, 3): 16, (3, 1): 2, (3, 2): 6, (5, 1): 2, (5, 2): 8, (7, 1): 2}
        for (prime, places), many in counts.items():
            flats = {}
            for rows in itertools.product(all_rows(prime, places), repeat=places):
                told = form(prime, places, list(rows))
                self.assertIsNone(breaks_form(prime, places, told), (prime, rows, told))
                rows_of_flat = frozenset(flat_of(prime, places, rows))
                self.assertEqual(flat_of(prime, places, told), rows_of_flat, (prime, rows, told))
                self.assertEqual(flats.setdefault(rows_of_flat, told), told, (prime, rows))
            self.assertEqual(len(flats), many)

    def test_middling_rooms_have_the_flat_of_the_rows(self):
        chance = random.Random(11)
        for prime, places, many in [(2, 6, 8), (2, 5, 6), (3, 4, 5), (3, 6, 4), (5, 3, 4), (7, 4, 3), (31, 6, 2)]:
            for _ in range(12):
                base = [[chance.randrange(prime) for _ in range(places)] for _ in range(2)]
                rows = base + [together(prime, places, [chance.randrange(prime) for _ in base], base)
                               for _ in range(many - 2)]
                told = form(prime, places, rows)
                self.assertIsNone(breaks_form(prime, places, told))
                self.assertEqual(flat_of(prime, places, told), flat_of(prime, places, rows))

    def test_each_room_with_all_corners(self):
        chance = random.Random(7)
        for prime, places, led, flat in some_forms():
            self.assertIsNone(breaks_form(prime, places, flat))
            self.assertEqual(form(prime, places, flat), flat)
            if flat:
                self.assertEqual(form(prime, places, mixed(prime, flat, chance)), flat, (prime, places, led))

    def test_the_same_rows_told_otherwise(self):
        chance = random.Random(13)
        for prime, places in ROOMS:
            rows = [[chance.randrange(prime) for _ in range(places)] for _ in range(3)]
            told = form(prime, places, rows)
            self.assertIsNone(breaks_form(prime, places, told))
            for turn in itertools.permutations(rows):
                self.assertEqual(form(prime, places, list(turn)), told)
            self.assertEqual(form(prime, places, rows + rows), told)
            sums = [together(prime, places, [chance.randrange(prime) for _ in rows], rows) for _ in range(5)]
            self.assertEqual(form(prime, places, sums + rows), told)
            self.assertEqual(form(prime, places, rows + sums), told)
            self.assertEqual(form(prime, places, told), told)

    def test_of_20_rows(self):
        chance = random.Random(17)
        for prime, places in ROOMS:
            for led in corner_lists(places)[1:]:
                flat = some_form(prime, places, led, chance)
                base = mixed(prime, flat, chance)
                more = [together(prime, places, [chance.randrange(prime) for _ in base], base)
                        for _ in range(20 - len(base))]
                self.assertEqual(form(prime, places, more + base), flat)

    def test_the_20th_row_counts(self):
        for prime, places in ROOMS:
            rows = [[0] * places for _ in range(19)] + [[prime - 1] * places]
            self.assertEqual(form(prime, places, rows), [[1] * places])


class Corners(unittest.TestCase):
    def test_of_the_flat_of_no_row(self):
        for prime, places in ROOMS:
            self.assertEqual(corners(prime, places, []), [])

    def test_of_the_whole_room(self):
        for prime, places in ROOMS:
            whole = [[int(at == place) for at in range(places)] for place in range(places)]
            self.assertEqual(corners(prime, places, whole), list(range(places)))

    def test_by_hand(self):
        self.assertEqual(corners(5, 4, [[0, 1, 2, 0], [0, 0, 0, 1]]), [1, 3])
        self.assertEqual(corners(3, 3, [[0, 0, 1]]), [2])
        self.assertEqual(corners(2, 3, [[1, 0, 1], [0, 1, 1]]), [0, 1])

    def test_of_flats_between(self):
        for prime, places, led, flat in some_forms():
            told = corners(prime, places, flat)
            self.assertIs(type(told), list)
            self.assertEqual(told, led)

    def test_there_are_as_many_as_the_width(self):
        chance = random.Random(19)
        for prime, places in ROOMS:
            rows = [[chance.randrange(prime) for _ in range(places)] for _ in range(3)]
            flat = form(prime, places, rows)
            self.assertEqual(len(corners(prime, places, flat)), len(flat))


class NothingChangedOrKept(unittest.TestCase):
    ROWS = [[2, 4, 1, 0], [0, 0, 0, 0], [1, 2, 4, 3]]

    def test_what_is_handed_in_stays(self):
        rows = copy.deepcopy(self.ROWS)
        inner = list(rows)
        form(5, 4, rows)
        self.assertEqual(rows, self.ROWS)
        self.assertTrue(all(one is other for one, other in zip(rows, inner)))
        flat = [[1, 0, 3], [0, 1, 2]]
        corners(5, 3, flat)
        self.assertEqual(flat, [[1, 0, 3], [0, 1, 2]])

    def test_changing_the_form_changes_nothing_else(self):
        for rows in (self.ROWS, form(5, 4, self.ROWS), [[1, 0, 0, 0]], [[0, 0, 0, 1], [0, 1, 0, 0]], []):
            handed = copy.deepcopy(rows)
            told = form(5, 4, handed)
            expected = copy.deepcopy(told)
            spoil(told)
            self.assertEqual(handed, rows)
            self.assertEqual(form(5, 4, handed), expected)

    def test_one_row_handed_in_twice_is_told_apart(self):
        row = [1, 1, 0]
        told = form(2, 3, [row, row, [0, 0, 1]])
        spoil(told)
        self.assertEqual(row, [1, 1, 0])
        self.assertEqual(told, [[99, 1, 0, 98], [99, 0, 1, 98], [97]])

    def test_changing_what_was_handed_in_changes_no_form(self):
        for rows in (self.ROWS, form(5, 4, self.ROWS)):
            handed = copy.deepcopy(rows)
            told = form(5, 4, handed)
            expected = copy.deepcopy(told)
            spoil(handed)
            self.assertEqual(told, expected)

    def test_changing_the_corners_changes_nothing_else(self):
        for flat in ([], [[0, 1, 4]], [[1, 0, 0], [0, 1, 0], [0, 0, 1]]):
            handed = copy.deepcopy(flat)
            told = corners(5, 3, handed)
            expected = list(told)
            told.append(7)
            told[0] = 9
            self.assertEqual(handed, flat)
            self.assertEqual(corners(5, 3, handed), expected)


class Refusals(unittest.TestCase):
    def refused(self, error, function, *told):
        self.assertIs(raised(function, *told), error)

    def test_rooms_that_are_none(self):
        for function in (form, corners):
            for odd in NO_PRIMES + no_numbers() + [[], [2], [[2]]]:
                self.refused(BadRoom, function, odd, 3, [])
            for odd in NO_COUNTS + no_numbers() + [[], [2], [[2]]]:
                self.refused(BadRoom, function, 5, odd, [])

    def test_bad_room_ahead_of_all_else(self):
        for function in (form, corners):
            for odd in no_lists() + [[[9, 9]], [[1]] * 30, holding_itself()]:
                self.refused(BadRoom, function, 4, 2, odd)
                self.refused(BadRoom, function, 5, 7, odd)
                self.refused(BadRoom, function, None, None, odd)

    def test_no_list_of_rows(self):
        for odd in no_lists():
            self.refused(BadRow, form, 5, 2, odd)

    def test_more_than_20_rows(self):
        for prime, places in ROOMS:
            self.refused(None, form, prime, places, [[1] * places] * 20)
            for many in (21, 22, 40, 1000):
                self.refused(BadRow, form, prime, places, [[1] * places] * many)
                self.refused(BadRow, form, prime, places, [[0] * places] * many)

    def test_a_list_with_what_is_no_row(self):
        for odd in no_rows_of_five():
            self.refused(BadRow, form, 5, 2, [odd])
            self.refused(BadRow, form, 5, 2, [[1, 0], [0, 1], odd])
            self.refused(BadRow, form, 5, 2, [odd, [1, 0]])

    def test_a_row_too_short_or_too_long(self):
        for prime, places in ROOMS:
            self.refused(BadRow, form, prime, places, [[0] * (places + 1)])
            self.refused(BadRow, form, prime, places, [[0] * (places - 1)])
            self.refused(BadRow, form, prime, places, [[0] * places, [1] * (places + 1)])

    def test_numbers_beyond_each_prime(self):
        for prime in PRIMES:
            self.refused(None, form, prime, 2, [[0, prime - 1]])
            self.refused(BadRow, form, prime, 2, [[0, prime]])
            self.refused(BadRow, form, prime, 2, [[-1, 0]])

    def test_what_is_no_list_of_rows_is_no_form(self):
        for odd in no_lists():
            self.refused(BadFlat, corners, 5, 2, odd)
        for odd in no_rows_of_five():
            self.refused(BadFlat, corners, 5, 2, [odd])
            self.refused(BadFlat, corners, 5, 2, [[1, 0], odd])
            self.refused(BadFlat, corners, 5, 2, [odd, [0, 1]])

    def test_corners_that_do_not_rise(self):
        self.refused(BadFlat, corners, 5, 3, [[0, 1, 0], [1, 0, 0]])
        self.refused(BadFlat, corners, 5, 3, [[1, 0, 0], [0, 0, 1], [0, 1, 0]])
        self.refused(BadFlat, corners, 5, 3, [[1, 0, 0], [1, 0, 0]])
        self.refused(BadFlat, corners, 5, 3, [[1, 0, 0], [1, 1, 0]])

    def test_a_first_number_that_is_not_1(self):
        self.refused(BadFlat, corners, 5, 3, [[2, 0, 0]])
        self.refused(BadFlat, corners, 5, 3, [[0, 4, 1]])
        self.refused(BadFlat, corners, 5, 3, [[1, 0, 0], [0, 3, 0]])

    def test_another_number_at_the_corner_of_another_row(self):
        self.refused(BadFlat, corners, 5, 3, [[1, 2, 0], [0, 1, 0]])
        self.refused(BadFlat, corners, 5, 3, [[1, 0, 4], [0, 1, 0], [0, 0, 1]])

    def test_a_row_of_noughts(self):
        self.refused(BadFlat, corners, 5, 3, [[0, 0, 0]])
        self.refused(BadFlat, corners, 5, 3, [[1, 0, 0], [0, 0, 0]])
        self.refused(BadFlat, corners, 5, 3, [[0, 0, 0], [0, 1, 0]])

    def test_too_many_rows(self):
        for prime, places in ROOMS:
            whole = [[int(at == place) for at in range(places)] for place in range(places)]
            self.refused(None, corners, prime, places, whole)
            self.refused(BadFlat, corners, prime, places, whole + whole[-1:])
            self.refused(BadFlat, corners, prime, places, whole + [[0] * places])
            self.refused(BadFlat, corners, prime, places, whole * 30)

    def test_just_the_forms_are_taken(self):
        for prime, places in [(2, 1), (2, 2), (2, 3), (3, 1), (3, 2), (5, 2)]:
            for many in range(places + 1):
                for rows in itertools.product(all_rows(prime, places), repeat=many):
                    flat = copy.deepcopy(list(rows))
                    expected = BadFlat if breaks_form(prime, places, flat) else None
                    self.assertIs(raised(corners, prime, places, flat), expected, flat)


if __name__ == "__main__":
    unittest.main()
