"""Two flats joined and met, one inside the other one, and beside it: points 9 and 10."""

import unittest

from flatroom.errors import NotInside
from flatroom.forms import form
from flatroom.meeting import beside, inside, joined, met
from tests.helper import (
    ROOMS, breaks_form, flat_of, picked, raised, rows_by_form, some_bases, some_forms, together, whole_room,
)

SMALL = [(2, 1), (2, 2), (2, 3), (3, 1), (3, 2), (3, 3), (5, 1), (5, 2), (7, 2)]
LINE, PLANE = [[1, 2, 0]], [[1, 2, 0], [0, 0, 1]]


class Small(unittest.TestCase):
    """Each two flats of small rooms, held to their rows."""

    def pairs(self):
        for prime, places in SMALL:
            known = rows_by_form(prime, places)
            for one, rows in known:
                for other, more in known:
                    yield prime, places, one, rows, other, more

    def test_joined(self):
        for prime, places, one, _, other, _ in self.pairs():
            told = joined(prime, places, one, other)
            self.assertIsNone(breaks_form(prime, places, told))
            # Rows of one and rows of the other put together, twice over: all that both make.
            self.assertEqual(flat_of(prime, places, told), self.sums(prime, places, one, other), (one, other))

    def sums(self, prime, places, one, other):
        """All sums of a row of the one flat and a row of the other one."""
        return {tuple(together(prime, places, [1, 1], [row, more]))
                for row in flat_of(prime, places, one) for more in flat_of(prime, places, other)}

    def test_met(self):
        for prime, places, one, rows, other, more in self.pairs():
            told = met(prime, places, one, other)
            self.assertIsNone(breaks_form(prime, places, told))
            self.assertEqual(flat_of(prime, places, told), rows & more, (one, other))

    def test_inside(self):
        for prime, places, one, rows, other, more in self.pairs():
            self.assertIs(inside(prime, places, one, other), rows <= more, (one, other))

    def test_beside(self):
        for prime, places, one, rows, other, more in self.pairs():
            if not rows <= more:
                self.assertIs(raised(beside, prime, places, one, other), NotInside)
                continue
            told = beside(prime, places, one, other)
            self.assertIsNone(breaks_form(prime, places, told))
            self.assertEqual(flat_of(prime, places, told) & rows, {(0,) * places})
            self.assertEqual(self.sums(prime, places, one, told), more)


class ByHand(unittest.TestCase):
    def test_two_lines(self):
        self.assertEqual(joined(5, 3, [[1, 0, 0]], [[1, 1, 0]]), [[1, 0, 0], [0, 1, 0]])
        self.assertEqual(met(5, 3, [[1, 0, 0]], [[1, 1, 0]]), [])
        self.assertIs(inside(5, 3, [[1, 0, 0]], [[1, 1, 0]]), False)

    def test_two_planes_that_share_a_line(self):
        one, other = [[1, 0, 1], [0, 1, 1]], [[1, 0, 0], [0, 1, 3]]
        self.assertEqual(joined(5, 3, one, other), whole_room(3))
        # A row of both is a, b, a + b, and a + b is 3 b.
        self.assertEqual(met(5, 3, one, other), [[1, 3, 4]])
        self.assertEqual(met(5, 3, other, one), [[1, 3, 4]])

    def test_one_inside_the_other_one(self):
        self.assertEqual(joined(5, 3, LINE, PLANE), PLANE)
        self.assertEqual(joined(5, 3, PLANE, LINE), PLANE)
        self.assertEqual(met(5, 3, LINE, PLANE), LINE)
        self.assertEqual(met(5, 3, PLANE, LINE), LINE)
        self.assertIs(inside(5, 3, LINE, PLANE), True)
        self.assertIs(inside(5, 3, PLANE, LINE), False)

    def test_as_wide_but_not_inside(self):
        self.assertIs(inside(5, 3, [[1, 2, 0]], [[1, 3, 0]]), False)
        self.assertIs(raised(beside, 5, 3, [[1, 2, 0]], [[1, 3, 0]]), NotInside)

    def test_not_inside_the_other_way_round(self):
        self.assertIs(raised(beside, 5, 3, PLANE, LINE), NotInside)
        self.assertIs(raised(beside, 5, 3, LINE, PLANE), None)
        self.assertIs(raised(beside, 5, 3, whole_room(3), []), NotInside)


class EachRoom(unittest.TestCase):
    def test_both_alike(self):
        for prime, places, _, flat in some_forms():
            self.assertEqual(joined(prime, places, flat, flat), flat)
            self.assertEqual(met(prime, places, flat, flat), flat)
            self.assertIs(inside(prime, places, flat, flat), True)
            self.assertEqual(beside(prime, places, flat, flat), [])

    def test_with_the_flat_of_no_rows(self):
        for prime, places, _, flat in some_forms():
            self.assertEqual(joined(prime, places, flat, []), flat)
            self.assertEqual(joined(prime, places, [], flat), flat)
            self.assertEqual(met(prime, places, flat, []), [])
            self.assertEqual(met(prime, places, [], flat), [])
            self.assertIs(inside(prime, places, [], flat), True)
            self.assertIs(inside(prime, places, flat, []), flat == [])
            self.assertEqual(beside(prime, places, [], flat), flat)

    def test_with_the_whole_room(self):
        for prime, places, _, flat in some_forms():
            whole = whole_room(places)
            self.assertEqual(joined(prime, places, flat, whole), whole)
            self.assertEqual(joined(prime, places, whole, flat), whole)
            self.assertEqual(met(prime, places, flat, whole), flat)
            self.assertEqual(met(prime, places, whole, flat), flat)
            self.assertIs(inside(prime, places, flat, whole), True)
            self.assertIs(inside(prime, places, whole, flat), flat == whole)
            self.held_beside(prime, places, flat, whole)

    def held_beside(self, prime, places, one, other):
        told = beside(prime, places, one, other)
        self.assertIsNone(breaks_form(prime, places, told))
        self.assertEqual(form(prime, places, one + told), other)
        self.assertEqual(len(one) + len(told), len(other))

    def test_flats_of_rows_of_one_base(self):
        # Rows of a base are put together in one way only, so what two flats share are the rows picked for both.
        for prime, places, base, first, second in some_bases(37):
            one, other = [form(prime, places, picked(base, turn)) for turn in (first, second)]
            union, common = sorted({*first, *second}), sorted({*first} & {*second})
            self.assertEqual(joined(prime, places, one, other), form(prime, places, picked(base, union)))
            self.assertEqual(met(prime, places, one, other), form(prime, places, picked(base, common)))
            self.assertIs(inside(prime, places, one, other), {*first} <= {*second})
            if {*first} <= {*second}:
                self.held_beside(prime, places, one, other)
            else:
                self.assertIs(raised(beside, prime, places, one, other), NotInside)
            self.held_beside(prime, places, met(prime, places, one, other), other)

    def test_the_widths_of_both_are_those_of_joined_and_met(self):
        forms = some_forms()
        for (prime, places, _, one), (prime_too, places_too, _, other) in zip(forms, forms[3:]):
            if (prime, places) == (prime_too, places_too):
                together_wide = len(joined(prime, places, one, other)) + len(met(prime, places, one, other))
                self.assertEqual(together_wide, len(one) + len(other))
                self.assertTrue(inside(prime, places, met(prime, places, one, other), one))
                self.assertTrue(inside(prime, places, other, joined(prime, places, one, other)))

    def test_six_places_of_each_prime(self):
        for prime, places in ROOMS:
            if places == 6:
                whole = whole_room(6)
                self.assertEqual(met(prime, 6, whole[:4], whole[2:]), whole[2:4])
                self.assertEqual(joined(prime, 6, whole[:2], whole[5:]), whole[:2] + whole[5:])


if __name__ == "__main__":
    unittest.main()
