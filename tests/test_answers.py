"""What is told of rows, flats and chains, and what it shows: points 7, 17, 18, 21, 22 and 24."""

import copy
import inspect
import itertools
import random
import unittest

from flatroom import answers
from flatroom.answers import Along, Answer, Barred, Turned, Unlike, Within
from flatroom.forms import form
from tests.helper import (
    ROOMS, all_chains, all_forms, all_rows, flat_of, mixed, number_lists, rows_by_form, some_forms, spoil, together,
    two_make, whole_room, widths_by_rows,
)

FIELDS = {"Within": ["shares"], "Barred": ["cross"], "Turned": ["table"], "Unlike": ["at"], "Along": ["base", "order"]}
ASKED = {"Within": ["flat", "row"], "Barred": ["flat", "row"], "Turned": ["flats", "others"],
         "Unlike": ["flats", "others"], "Along": ["one", "other"]}
HUGE = 10 ** 40
# Whole numbers, lists of them and lists of these lists, and what is none of the three.
OF_ANY_SHAPE = [
    0, 1, -1, HUGE, -HUGE, [], [0], [1], [-1], [HUGE], [0, 1], [1, 0], [5, -5], [0] * 1000, [HUGE] * 50, [[]], [[], []],
    [[0]], [[1]], [[1, 0]], [[1], [0]], [[1, 0], [0]], [[1, 0], [0, HUGE]], [[-1, 0], [0, 1]], [[1, 0, 0]] * 3,
    [[1, 0], [1, 0]], [[0, 0], [0, 0]], [[1, 0], [0, 1], [0, 0]], [[1, 0]] * 500, [list(range(500))] * 2, [0, [1]],
    [[1, 0], 1], True, False, [True, False], [[True, False], [False, True]], None, "01", (0, 1), ((1, 0), (0, 1)), {},
]


def in_room(prime, told, many):
    """Whether this is a list of so many numbers from 0 to one less than the prime."""
    return type(told) is list and len(told) == many and all(
        type(number) is int and 0 <= number < prime for number in told)


class Classes(unittest.TestCase):
    def test_each_is_straight_under_answer(self):
        for name in FIELDS:
            self.assertEqual(getattr(answers, name).__bases__, (Answer,), name)
        self.assertEqual(Answer.__bases__, (object,))

    def test_each_has_its_fields_and_its_own_shows(self):
        for name, fields in FIELDS.items():
            made = getattr(answers, name)(**{field: [1] for field in fields})
            self.assertEqual(vars(made), {field: [1] for field in fields})
            self.assertIn("shows", vars(type(made)))
            self.assertEqual(list(inspect.signature(type(made)).parameters), fields)
            self.assertEqual(list(inspect.signature(made.shows).parameters), ["prime", "places", *ASKED[name]])

    def test_lists_are_copied_lists_within_them_too(self):
        for name, fields in FIELDS.items():
            for told in ([], [1, 2], [[1, 2], [3, 4]], [[1, 0], [0, 1], []]):
                handed = [copy.deepcopy(told) for _ in fields]
                made = getattr(answers, name)(*handed)
                self.assertEqual(handed, [told] * len(fields))
                for field, one in zip(fields, handed):
                    self.assertEqual(getattr(made, field), told)
                    self.assertIs(type(getattr(made, field)), list)
                    self.apart(getattr(made, field), one)

    def apart(self, one, other):
        self.assertIsNot(one, other)
        for row, more in zip(one, other):
            if type(row) is list:
                self.assertIsNot(row, more)

    def test_one_row_handed_in_twice_is_copied_twice(self):
        row = [1, 0]
        made = Turned([row, row])
        made.table[0][0] = 7
        self.assertEqual(made.table, [[7, 0], [1, 0]])
        made = Along([row, row], row)
        made.order[0] = 5
        made.base[1][1] = 6
        self.assertEqual((made.base, made.order, row), ([[1, 0], [1, 6]], [5, 0], [1, 0]))

    def test_a_number_stays_a_number(self):
        for number in (0, 3, -1, HUGE):
            self.assertEqual(Unlike(number).at, number)


class OfAnyShape(unittest.TestCase):
    """Whatever stands in the fields, what is asked is told, not raised."""

    def test_within_and_barred(self):
        flat = [[1, 3]]
        for told in OF_ANY_SHAPE:
            for row in ([0, 0], [1, 3], [1, 2]):
                shown = in_room(5, told, 1) and together(5, 2, told, flat) == row
                self.assertIs(Within(told).shows(5, 2, flat, row), shown, (told, row))
                shown = in_room(5, told, 2) and two_make(5, told, flat[0]) == 0 and two_make(5, told, row) != 0
                self.assertIs(Barred(told).shows(5, 2, flat, row), shown, (told, row))

    def test_turned(self):
        for told in OF_ANY_SHAPE:
            for flats in ([[]], [[[1, 0]]], [[[1, 0]], whole_room(2)]):
                self.assertIs(Turned(told).shows(5, 2, flats, flats), False, told)
        self.assertIs(Turned([[1, 0], [0, 4]]).shows(5, 2, [[[1, 0]]], [[[1, 0]]]), True)

    def test_unlike(self):
        for told in OF_ANY_SHAPE:
            shown = type(told) is int and told == 0
            self.assertIs(Unlike(told).shows(5, 2, [[[1, 0]]], [[]]), shown, told)

    def test_along(self):
        chain = [[], [[1, 0]], whole_room(2)]
        for told in OF_ANY_SHAPE:
            self.assertIs(Along([[2, 0], [0, 3]], told).shows(5, 2, chain, chain), told == [0, 1], told)
            self.assertIs(Along(told, [0, 1]).shows(5, 2, chain, chain), False, told)
            self.assertIs(Along(told, told).shows(5, 2, chain, chain), False, told)


    def test_true_and_false_are_no_numbers(self):
        whole, chain = whole_room(2), [[], [[1, 0]], whole_room(2)]
        self.assertIs(Within([True, False]).shows(5, 2, whole, [1, 0]), False)
        self.assertIs(Barred([True, False]).shows(5, 2, [[0, 1]], [1, 0]), False)
        self.assertIs(Turned([[True, False], [False, True]]).shows(5, 2, [whole], [whole]), False)
        self.assertIs(Unlike(False).shows(5, 2, [[]], [whole]), False)
        self.assertIs(Unlike(True).shows(5, 2, [[], []], [[], whole]), False)
        self.assertIs(Along(whole, [False, True]).shows(5, 2, chain, chain), False)
        self.assertIs(Along([[True, 0], [0, 1]], [0, 1]).shows(5, 2, chain, chain), False)


class WithinShows(unittest.TestCase):
    def test_small_rooms_through_and_through(self):
        for prime, places in [(2, 1), (2, 2), (2, 3), (3, 2), (5, 1)]:
            for flat in all_forms(prime, places):
                for shares in number_lists(range(-1, prime + 1), places + 1):
                    fits = in_room(prime, shares, len(flat))
                    made = together(prime, places, shares, flat) if fits else None
                    for row in all_rows(prime, places):
                        told = Within(shares).shows(prime, places, flat, row)
                        self.assertIs(told, made == row, (prime, flat, shares, row))

    def test_each_room_with_all_corners(self):
        chance = random.Random(47)
        for prime, places, _, flat in some_forms():
            shares = [chance.randrange(prime) for _ in flat]
            row = together(prime, places, shares, flat)
            self.assertIs(Within(shares).shows(prime, places, flat, row), True)
            self.assertIs(Within(shares + [0]).shows(prime, places, flat, row), False)
            for at in range(len(shares)):
                for by in (1, -prime, prime, HUGE * prime):
                    changed = shares[:at] + [shares[at] + by] + shares[at + 1:]
                    self.assertIs(Within(changed).shows(prime, places, flat, row), False)
                self.assertIs(Within(shares[:at]).shows(prime, places, flat, row), False)

    def test_a_share_of_a_row_too_few_is_not_taken_as_none(self):
        self.assertIs(Within([2]).shows(5, 2, whole_room(2), [2, 0]), False)
        self.assertIs(Within([2, 0]).shows(5, 2, whole_room(2), [2, 0]), True)
        self.assertIs(Within([]).shows(5, 2, whole_room(2), [0, 0]), False)
        self.assertIs(Within([]).shows(5, 2, [], [0, 0]), True)
        self.assertIs(Within([0]).shows(5, 2, [], [0, 0]), False)

    def test_by_the_field_as_it_stands(self):
        made = Within([2, 0])
        made.shares[1] = 3
        self.assertIs(made.shows(5, 2, whole_room(2), [2, 0]), False)
        self.assertIs(made.shows(5, 2, whole_room(2), [2, 3]), True)
        made.shares = [4, 4]
        self.assertIs(made.shows(5, 2, whole_room(2), [4, 4]), True)


class BarredShows(unittest.TestCase):
    def test_small_rooms_through_and_through(self):
        for prime, places in [(2, 1), (2, 2), (2, 3), (3, 2), (5, 1)]:
            for flat, rows in rows_by_form(prime, places):
                for cross in number_lists(range(-1, prime + 1), places + 1):
                    fits = in_room(prime, cross, places) and not any(two_make(prime, cross, own) for own in rows)
                    for row in all_rows(prime, places):
                        told = Barred(cross).shows(prime, places, flat, row)
                        shown = fits and two_make(prime, cross, row) != 0
                        self.assertIs(told, shown, (prime, flat, cross, row))

    def test_numbers_beyond_the_prime_and_below_0(self):
        self.assertIs(Barred([4, 1]).shows(5, 2, [[1, 1]], [1, 0]), True)
        for cross in ([-1, 1], [4, 6], [9, 1], [4, 1 + 5 * HUGE], [4, 1, 0], [4], [], [0, 0]):
            self.assertIs(Barred(cross).shows(5, 2, [[1, 1]], [1, 0]), False, cross)

    def test_by_the_field_as_it_stands(self):
        made = Barred([4, 1])
        made.cross[0] = 3
        self.assertIs(made.shows(5, 2, [[1, 1]], [1, 0]), False)
        made.cross = [1, 4]
        self.assertIs(made.shows(5, 2, [[1, 1]], [1, 0]), True)

    def test_never_both(self):
        for prime, places in [(2, 2), (3, 2)]:
            lists = number_lists(range(prime), places)
            for flat in all_forms(prime, places):
                for row in all_rows(prime, places):
                    within = any(Within(told).shows(prime, places, flat, row) for told in lists)
                    barred = any(Barred(told).shows(prime, places, flat, row) for told in lists)
                    self.assertIs(within, not barred, (prime, flat, row))


class TurnedShows(unittest.TestCase):
    def turns(self, prime, places, table, flats, others):
        """Whether a table does it, by all rows of each flat."""
        if type(table) is not list or len(table) != places or not all(in_room(prime, row, places) for row in table):
            return False
        if len(flat_of(prime, places, table)) != prime ** places:
            return False
        return all(
            {tuple(together(prime, places, row, table)) for row in flat_of(prime, places, flat)}
            == flat_of(prime, places, other) for flat, other in zip(flats, others, strict=True))

    def held(self, prime, places, table, flats, others):
        told = Turned(table).shows(prime, places, flats, others)
        self.assertIs(told, self.turns(prime, places, table, flats, others), (prime, table, flats, others))
        return told

    def test_one_flat_through_and_through(self):
        for prime, many in [(2, 3), (3, 2)]:
            forms = all_forms(prime, 2)
            rows = [list(row) for row in itertools.product(range(-1, prime + 1), repeat=2)]
            tables = [list(table) for size in range(many + 1) for table in itertools.product(rows, repeat=size)]
            for at, table in enumerate(tables):
                one = forms[at % len(forms)]
                for other in forms:
                    self.held(prime, 2, table, [one], [other])

    def test_two_and_three_flats(self):
        chance = random.Random(53)
        shown = 0
        for prime, places in [(2, 2), (3, 2), (2, 3)]:
            forms = all_forms(prime, places)
            for _ in range(1500):
                table = [[chance.randrange(prime) for _ in range(places)] for _ in range(places)]
                many = chance.randint(2, 3)
                flats = [chance.choice(forms) for _ in range(many)]
                others = [chance.choice(forms) for _ in range(many)]
                shown += self.held(prime, places, table, flats, others)
                moved = [form(prime, places, [together(prime, places, row, table) for row in flat]) for flat in flats]
                shown += self.held(prime, places, table, flats, moved)
        self.assertGreater(shown, 1000)

    def test_each_room(self):
        chance = random.Random(59)
        for prime, places in ROOMS:
            table = mixed(prime, whole_room(places), chance)
            flats = [form(prime, places, [[chance.randrange(prime) for _ in range(places)]
                                          for _ in range(chance.randint(0, places))]) for _ in range(3)]
            moved = [form(prime, places, [together(prime, places, row, table) for row in flat]) for flat in flats]
            for many in (1, 2, 3):
                self.assertIs(Turned(table).shows(prime, places, flats[:many], moved[:many]), True)
                for odd in self.spoilt(prime, places, table):
                    self.assertIs(Turned(odd).shows(prime, places, flats[:many], moved[:many]), False, odd)

    def spoilt(self, prime, places, table):
        """What is no table, made of one."""
        beyond, below, short, noughts = [copy.deepcopy(table) for _ in range(4)]
        beyond[-1][-1] += prime
        below[0][0] -= prime
        short[-1].pop()
        noughts[-1] = [0] * places
        return [[], table[1:], table[:-1], table + [[0] * places], table + table[:1], beyond, below, short, noughts]

    def test_the_rows_go_by_the_places_of_the_turned_row(self):
        table = [[0, 1, 0], [0, 0, 1], [1, 0, 0]]
        self.assertIs(Turned(table).shows(5, 3, [[[1, 0, 0]]], [[[0, 1, 0]]]), True)
        self.assertIs(Turned(table).shows(5, 3, [[[1, 0, 0]]], [[[0, 0, 1]]]), False)
        self.assertIs(Turned(table).shows(5, 3, [[[1, 2, 0]]], [[[0, 1, 2]]]), True)

    def test_in_their_turn(self):
        flats, swapped = [[[1, 0]], [[0, 1]]], [[[0, 1]], [[1, 0]]]
        self.assertIs(Turned([[1, 0], [0, 1]]).shows(3, 2, flats, swapped), False)
        self.assertIs(Turned([[0, 1], [1, 0]]).shows(3, 2, flats, swapped), True)

    def test_rows_that_do_not_make_the_room_turn_nothing(self):
        self.assertIs(Turned([[1, 0], [0, 0]]).shows(3, 2, [[[1, 0]]], [[[1, 0]]]), False)
        self.assertIs(Turned([[1, 0]]).shows(3, 2, [[[1, 0]]], [[[1, 0]]]), False)

    def test_by_the_field_as_it_stands(self):
        made = Turned([[1, 0], [0, 1]])
        made.table[0][1] = 1
        self.assertIs(made.shows(3, 2, [[[1, 0]]], [[[1, 0]]]), False)
        self.assertIs(made.shows(3, 2, [[[1, 0]]], [[[1, 1]]]), True)
        made.table.append([0, 0])
        self.assertIs(made.shows(3, 2, [[[1, 0]]], [[[1, 1]]]), False)


class UnlikeShows(unittest.TestCase):
    def held(self, prime, places, flats, others):
        here, there = [widths_by_rows(prime, places, some) for some in (flats, others)]
        unlike = [at for at in range(len(here)) if here[at] != there[at]]
        shown = [at for at in range(-12, 13) if Unlike(at).shows(prime, places, flats, others)]
        self.assertEqual(shown, unlike, (prime, flats, others))

    def test_small_rooms(self):
        chance = random.Random(61)
        for prime, places in [(2, 1), (2, 2), (2, 3), (3, 2), (3, 3), (5, 2), (2, 4)]:
            forms = all_forms(prime, places)
            for many in (1, 2, 3):
                for _ in range(60):
                    self.held(prime, places, [chance.choice(forms) for _ in range(many)],
                              [chance.choice(forms) for _ in range(many)])

    def test_three_lines_of_one_plane_and_of_none(self):
        x, y, z, xy = [[1, 0, 0]], [[0, 1, 0]], [[0, 0, 1]], [[1, 1, 0]]
        for at in range(-10, 20):
            told = Unlike(at).shows(7, 3, [x, y, z], [x, y, xy])
            self.assertIs(told, at in (7, 8), at)

    def test_counted_from_0_and_not_from_behind(self):
        line, whole = [[1, 0]], whole_room(2)
        for at in (-9, -3, -2, -1, 1, 2, 3, 9, HUGE, -HUGE):
            self.assertIs(Unlike(at).shows(3, 2, [line], [whole]), False)
        self.assertIs(Unlike(0).shows(3, 2, [line], [whole]), True)
        for at, shown in [(-3, False), (0, False), (1, False), (2, True), (3, False)]:
            self.assertIs(Unlike(at).shows(3, 2, [line, line], [line, [[0, 1]]]), shown)

    def test_of_flats_that_are_alike(self):
        for prime, places, _, flat in some_forms()[::5]:
            for at in range(-1, 10):
                self.assertIs(Unlike(at).shows(prime, places, [flat] * 3, [flat] * 3), False)

    def test_by_the_field_as_it_stands(self):
        made = Unlike(0)
        self.assertIs(made.shows(3, 2, [[]], [[[1, 0]]]), True)
        made.at = 1
        self.assertIs(made.shows(3, 2, [[]], [[[1, 0]]]), False)


class AlongShows(unittest.TestCase):
    def leads(self, prime, places, base, order, one, other):
        """Whether base and order do it, by all rows of each flat."""
        if type(base) is not list or len(base) != places or not all(in_room(prime, row, places) for row in base):
            return False
        if not in_room(places, order, places) or len(set(order)) != places:
            return False
        for width in range(places + 1):
            behind = [row for row, number in zip(base, order) if number < width]
            if flat_of(prime, places, base[:width]) != flat_of(prime, places, one[width]):
                return False
            if flat_of(prime, places, behind) != flat_of(prime, places, other[width]):
                return False
        return True

    def held(self, prime, places, base, order, one, other):
        told = Along(base, order).shows(prime, places, one, other)
        self.assertIs(told, self.leads(prime, places, base, order, one, other), (prime, base, order, one, other))
        return told

    def test_two_places_through_and_through(self):
        for prime in (2, 3):
            chains = all_chains(prime, 2)
            orders = number_lists(range(-1, 3), 3)
            for one, other in itertools.product(chains, repeat=2):
                for base in itertools.product(all_rows(prime, 2), repeat=2):
                    for order in orders if prime == 2 else ([0, 1], [1, 0], [0, 0]):
                        self.held(prime, 2, list(base), order, one, other)

    def test_bases_that_are_none(self):
        chain = [[], [[1, 0]], whole_room(2)]
        rows = [list(row) for row in itertools.product(range(-1, 4), repeat=2)]
        for many in (0, 1, 2, 3):
            for base in itertools.product(rows if many < 3 else all_rows(2, 2), repeat=many):
                for order in ([0, 1], [1, 0], [0], [0, 1, 2]):
                    self.held(3, 2, list(base), order, chain, chain)

    def test_the_order_is_one_whatever_the_base(self):
        chains = all_chains(2, 3)
        self.assertEqual(len(chains), 21)
        tables = [list(table) for table in itertools.product(all_rows(2, 3), repeat=3)
                  if len(flat_of(2, 3, table)) == 8]
        self.assertEqual(len(tables), 168)
        for one, other in itertools.product(chains[::4], chains):
            fitting = [table for table in tables if form(2, 3, table[:1]) == one[1] and form(2, 3, table[:2]) == one[2]]
            found = {order for order in itertools.permutations(range(3)) for table in fitting
                     if Along(table, list(order)).shows(2, 3, one, other)}
            self.assertEqual(len(found), 1, (one, other))

    def test_three_places_by_chance(self):
        chance = random.Random(67)
        chains = all_chains(2, 3)
        for _ in range(1500):
            base = [[chance.randrange(2) for _ in range(3)] for _ in range(3)]
            order = chance.sample(range(3), 3)
            self.held(2, 3, base, order, chance.choice(chains), chance.choice(chains))
            if len(flat_of(2, 3, base)) == 8:
                one, other = self.led(2, 3, base, order)
                self.assertTrue(self.held(2, 3, base, order, one, other))
                self.held(2, 3, base, order, one, chance.choice(chains))
                self.held(2, 3, base, order, chance.choice(chains), other)

    def led(self, prime, places, base, order):
        """The two chains that a base and an order lead."""
        one = [form(prime, places, base[:width]) for width in range(places + 1)]
        other = [form(prime, places, [row for row, number in zip(base, order) if number < width])
                 for width in range(places + 1)]
        return one, other

    def test_each_room(self):
        chance = random.Random(71)
        for prime, places in ROOMS:
            base = mixed(prime, whole_room(places), chance)
            order = chance.sample(range(places), places)
            one, other = self.led(prime, places, base, order)
            self.assertIs(Along(base, order).shows(prime, places, one, other), True)
            for odd in self.odd_bases(prime, places, base):
                self.assertIs(Along(odd, order).shows(prime, places, one, other), False, odd)
            for odd in self.odd_orders(places, order):
                self.assertIs(Along(base, odd).shows(prime, places, one, other), False, odd)

    def odd_bases(self, prime, places, base):
        """What is no base of the room, made of one."""
        beyond, below, noughts, short = [copy.deepcopy(base) for _ in range(4)]
        beyond[0][0] += prime
        below[-1][-1] -= prime
        noughts[-1] = [0] * places
        short[0].pop()
        return [[], base[:-1], base + [[0] * places], base + base[-1:], beyond, below, noughts, short]

    def odd_orders(self, places, order):
        """Other orders, and what is none, made of one."""
        odd = [[], order[:-1], order + [0], order + [places], [number + 1 for number in order],
               [number - places for number in order], [number - 1 for number in order]]
        for one, other in itertools.combinations(range(places), 2):
            swapped, twice = list(order), list(order)
            swapped[one], swapped[other] = order[other], order[one]
            twice[one] = order[other]
            odd += [swapped, twice]
        return odd

    def test_the_order_tells_the_number_of_each_row_not_the_row_of_each_number(self):
        base, order = whole_room(3), [1, 2, 0]
        one = [[], base[:1], base[:2], base]
        other = [[], [[0, 0, 1]], [[1, 0, 0], [0, 0, 1]], base]
        self.assertIs(Along(base, order).shows(5, 3, one, other), True)
        self.assertIs(Along(base, [2, 0, 1]).shows(5, 3, one, other), False)

    def test_by_the_fields_as_they_stand(self):
        chain = [[], [[1, 0]], whole_room(2)]
        made = Along(whole_room(2), [0, 1])
        made.base[1][0] = 2
        self.assertIs(made.shows(3, 2, chain, chain), True)
        made.base[0][1] = 2
        self.assertIs(made.shows(3, 2, chain, chain), False)
        made.base = whole_room(2)
        made.order.reverse()
        self.assertIs(made.shows(3, 2, chain, chain), False)
        self.assertIs(made.shows(3, 2, chain, [[], [[0, 1]], whole_room(2)]), True)


class NothingChangedOrKept(unittest.TestCase):
    CHAIN = [[], [[1, 0]], [[1, 0], [0, 1]]]
    SHOWN = [
        (Within, [[3]], [[[1, 2]], [3, 1]]),
        (Barred, [[3, 1]], [[[1, 2]], [1, 1]]),
        (Turned, [[[0, 1], [1, 0]]], [[[[1, 2]], [[0, 1]]], [[[1, 3]], [[1, 0]]]]),
        (Unlike, [2], [[[[1, 2]], [[1, 2]]], [[[1, 2]], [[1, 3]]]]),
        (Along, [[[2, 0], [1, 3]], [0, 1]], [CHAIN, CHAIN]),
    ]

    def test_lists_changed_behind_leave_the_answer(self):
        for made_by, fields, asked in self.SHOWN:
            handed = copy.deepcopy(fields)
            made = made_by(*handed)
            for field in handed:
                if type(field) is list:
                    if type(field[0]) is list:
                        spoil(field)
                    else:
                        field[0] = 77
                        field.append(4)
            self.assertEqual(list(vars(made).values()), fields)
            self.assertIs(made.shows(5, 2, *asked), True, made_by)

    def test_what_is_asked_of_stays_and_so_do_the_fields(self):
        for made_by, fields, asked in self.SHOWN:
            made, handed = made_by(*fields), copy.deepcopy(asked)
            for _ in range(2):
                self.assertIs(made.shows(5, 2, *handed), True)
                self.assertEqual(handed, asked)
                self.assertEqual(list(vars(made).values()), fields)


if __name__ == "__main__":
    unittest.main()
