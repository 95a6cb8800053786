"""The widths of one, two and three flats: point 20."""

import itertools
import random
import unittest

from flatroom.forms import form
from flatroom.widths import widths_of
from tests.helper import ROOMS, all_forms, mixed, together, whole_room, widths_by_rows

X, Y, Z = [[1, 0, 0]], [[0, 1, 0]], [[0, 0, 1]]
XY, XZ, YZ = [[1, 0, 0], [0, 1, 0]], [[1, 0, 0], [0, 0, 1]], [[0, 1, 0], [0, 0, 1]]
ALL = [[1, 0, 0], [0, 1, 0], [0, 0, 1]]


class ByHand(unittest.TestCase):
    def told(self, flats, expected):
        for prime in (2, 3, 31):
            self.assertEqual(widths_of(prime, 3, flats), expected, flats)

    def test_of_one(self):
        self.told([[]], [0])
        self.told([X], [1])
        self.told([YZ], [2])
        self.told([ALL], [3])

    def test_of_two(self):
        self.told([X, YZ], [1, 2, 0])
        self.told([XY, Y], [2, 1, 1])
        self.told([XY, YZ], [2, 2, 1])
        self.told([Z, Z], [1, 1, 1])
        self.told([[], ALL], [0, 3, 0])
        self.told([ALL, ALL], [3, 3, 3])

    def test_three_lines_of_one_plane(self):
        self.told([X, Y, [[1, 1, 0]]], [1, 1, 1, 0, 0, 0, 0, 1, 2])
        self.told([[[1, 1, 0]], X, Y], [1, 1, 1, 0, 0, 0, 0, 1, 2])

    def test_three_lines_of_no_plane(self):
        self.told([X, Y, Z], [1, 1, 1, 0, 0, 0, 0, 0, 3])

    def test_each_of_the_nine_stands_at_its_place(self):
        self.told([XY, X, []], [2, 1, 0, 1, 0, 0, 0, 1, 2])
        self.told([XY, [], X], [2, 0, 1, 0, 1, 0, 0, 1, 2])
        self.told([[], XY, X], [0, 2, 1, 0, 0, 1, 0, 0, 2])
        self.told([X, XY, XZ], [1, 2, 2, 1, 1, 1, 1, 1, 3])
        self.told([YZ, XY, XZ], [2, 2, 2, 1, 1, 1, 0, 2, 3])
        self.told([ALL, ALL, Y], [3, 3, 1, 3, 1, 1, 1, 3, 3])
        self.told([Y, X, Z], [1, 1, 1, 0, 0, 0, 0, 0, 3])

    def test_the_first_may_meet_two_joined_in_more_than_each(self):
        self.told([[[1, 0, 1]], X, Z], [1, 1, 1, 0, 0, 0, 0, 1, 2])

    def test_of_no_rows_and_of_the_whole_room(self):
        for prime, places in ROOMS:
            whole = whole_room(places)
            self.assertEqual(widths_of(prime, places, [[], [], []]), [0] * 9)
            self.assertEqual(widths_of(prime, places, [whole, whole, whole]), [places] * 9)


class ByRows(unittest.TestCase):
    def test_each_one_and_two_of_small_rooms(self):
        for prime, places in [(2, 1), (2, 2), (2, 3), (3, 2), (5, 2)]:
            for many in (1, 2):
                for flats in itertools.product(all_forms(prime, places), repeat=many):
                    flats = list(flats)
                    self.assertEqual(widths_of(prime, places, flats), widths_by_rows(prime, places, flats), flats)

    def test_each_three_of_small_rooms(self):
        for prime, places in [(2, 1), (2, 2), (2, 3), (3, 2), (31, 1)]:
            for flats in itertools.product(all_forms(prime, places), repeat=3):
                flats = list(flats)
                self.assertEqual(widths_of(prime, places, flats), widths_by_rows(prime, places, flats), flats)

    def test_some_three_of_middling_rooms(self):
        chance = random.Random(41)
        for prime, places in [(2, 4), (2, 5), (2, 6), (3, 3), (3, 4), (5, 3), (7, 3)]:
            for _ in range(30):
                base = [[chance.randrange(prime) for _ in range(places)] for _ in range(chance.randint(1, places))]
                flats = [form(prime, places, self.some(prime, places, base, chance)) for _ in range(3)]
                self.assertEqual(widths_of(prime, places, flats), widths_by_rows(prime, places, flats), flats)

    def some(self, prime, places, base, chance):
        """Some rows put together of the base's."""
        return [together(prime, places, [chance.randrange(prime) for _ in base], base)
                for _ in range(chance.randint(0, places - 1))]

    def test_of_rows_of_one_base_in_each_room(self):
        chance = random.Random(43)
        for prime, places in ROOMS:
            base = mixed(prime, whole_room(places), chance)
            for _ in range(4):
                a, b, c = [{place for place in range(places) if chance.randrange(2)} for _ in range(3)]
                flats = [form(prime, places, [base[place] for place in sorted(led)]) for led in (a, b, c)]
                sets = [a, b, c, a & b, a & c, b & c, a & b & c, a & (b | c), a | b | c]
                self.assertEqual(widths_of(prime, places, flats), [len(led) for led in sets])
                self.assertEqual(widths_of(prime, places, flats[:2]), [len(led) for led in sets[:2] + sets[3:4]])
                self.assertEqual(widths_of(prime, places, flats[2:]), [len(c)])


if __name__ == "__main__":
    unittest.main()
