"""Widths, and flats turned to others or shown to be unlike: points 20 and 21."""

import itertools
import random
import unittest

from flatroom.answers import Turned, Unlike
from flatroom.forms import form
from flatroom.turning import turn, turn_three, turn_two, widths
from tests.helper import (
    ROOMS, all_forms, all_tables, flat_of, picked, some_flat, some_forms, some_table, together, turned_rows,
    whole_room, widths_by_rows,
)

X, Y, Z = [[1, 0, 0]], [[0, 1, 0]], [[0, 0, 1]]
XY, XZ, YZ = [[1, 0, 0], [0, 1, 0]], [[1, 0, 0], [0, 0, 1]], [[0, 1, 0], [0, 0, 1]]
ALL = [[1, 0, 0], [0, 1, 0], [0, 0, 1]]
SLANT = [[1, 1, 0]]


def turn_each(prime, places, flats, others):
    """What is told of one, two or three flats and as many others."""
    if len(flats) == 1:
        return turn(prime, places, flats[0], others[0])
    return (turn_two if len(flats) == 2 else turn_three)(prime, places, flats, others)


def turned_flats(prime, places, table, flats):
    """The flats turned by a table."""
    return [form(prime, places, [together(prime, places, row, table) for row in flat]) for flat in flats]


def some_three(prime, places, chance):
    """Three flats that share rows in many ways: rows of one base picked, and sums of them."""
    base = some_table(prime, places, chance)
    made = []
    for _ in range(3):
        rows = picked(base, chance.sample(range(places), chance.randint(0, places // 2)))
        rows += [together(prime, places, [chance.choice([0, 0, 1, prime - 1]) for _ in base], base)
                 for _ in range(chance.randint(0, places // 2))]
        made.append(form(prime, places, rows))
    return made


def tied_three(prime, places, many, chance):
    """Three flats of so many rows, any two of which meet in nothing, though each lies in the other two joined."""
    base = some_table(prime, places, chance)
    one, two = base[:many], base[many:2 * many]
    three = [together(prime, places, [1, 1], [row, other]) for row, other in zip(one, two)]
    return [form(prime, places, rows) for rows in (one, two, three)]


class Held(unittest.TestCase):
    """Holds what is told to all that point 21 asks of it."""

    def held(self, prime, places, flats, others):
        told = turn_each(prime, places, flats, others)
        here, there = widths(prime, places, flats), widths(prime, places, others)
        self.assertIn(type(told), (Turned, Unlike))
        self.assertIs(type(told) is Turned, here == there, (prime, flats, others))
        self.assertIs(told.shows(prime, places, flats, others), True, (prime, flats, others))
        if type(told) is Turned:
            self.assertEqual(turned_flats(prime, places, told.table, flats), others)
        else:
            self.assertIs(type(told.at), int)
            self.assertNotEqual(here[told.at], there[told.at])
        return told

    def turned(self, prime, places, flats, others):
        self.assertIs(type(self.held(prime, places, flats, others)), Turned, (prime, flats, others))

    def unlike(self, prime, places, flats, others):
        self.assertIs(type(self.held(prime, places, flats, others)), Unlike, (prime, flats, others))


class Widths(unittest.TestCase):
    def told(self, flats, expected):
        for prime in (2, 3, 31):
            self.assertEqual(widths(prime, 3, flats), expected, flats)

    def test_by_hand(self):
        self.told([[]], [0])
        self.told([YZ], [2])
        self.told([X, YZ], [1, 2, 0])
        self.told([XY, Y], [2, 1, 1])
        self.told([XY, YZ], [2, 2, 1])
        self.told([X, Y, Z], [1, 1, 1, 0, 0, 0, 0, 0, 3])
        self.told([X, XY, XZ], [1, 2, 2, 1, 1, 1, 1, 1, 3])
        self.told([XY, X, []], [2, 1, 0, 1, 0, 0, 0, 1, 2])
        self.told([ALL, ALL, Y], [3, 3, 1, 3, 1, 1, 1, 3, 3])

    def test_three_lines_of_one_plane(self):
        for flats in itertools.permutations([X, Y, SLANT]):
            self.told(list(flats), [1, 1, 1, 0, 0, 0, 0, 1, 2])

    def test_the_same_flat_twice_and_thrice(self):
        for prime, places, _, flat in some_forms()[::3]:
            width = len(flat)
            self.assertEqual(widths(prime, places, [flat]), [width])
            self.assertEqual(widths(prime, places, [flat, flat]), [width] * 3)
            self.assertEqual(widths(prime, places, [flat] * 3), [width] * 9)

    def test_small_rooms(self):
        for prime, places in [(2, 1), (2, 2), (3, 2), (5, 2)]:
            for many in (1, 2, 3) if prime < 5 else (1, 2):
                for flats in itertools.product(all_forms(prime, places), repeat=many):
                    flats = list(flats)
                    self.assertEqual(widths(prime, places, flats), widths_by_rows(prime, places, flats), flats)

    def test_flats_that_share_rows(self):
        chance = random.Random(113)
        for prime, places in [(2, 3), (2, 4), (2, 5), (3, 3), (3, 4), (5, 3)]:
            for _ in range(25):
                flats = some_three(prime, places, chance)
                self.assertEqual(widths(prime, places, flats), widths_by_rows(prime, places, flats), flats)


class ByHand(Held):
    def test_one(self):
        for prime in (2, 3, 31):
            self.turned(prime, 3, [X], [Z])
            self.turned(prime, 3, [XY], [YZ])
            self.unlike(prime, 3, [X], [XY])
            self.unlike(prime, 3, [[]], [ALL])

    def test_two(self):
        for prime in (2, 3, 31):
            self.turned(prime, 3, [X, YZ], [SLANT, XZ])
            self.turned(prime, 3, [X, XY], [Z, YZ])
            self.unlike(prime, 3, [X, XY], [X, YZ])
            self.assertEqual(turn_two(prime, 3, [X, XY], [X, YZ]).at, 2)
            self.assertEqual(turn(prime, 3, X, XY).at, 0)

    def test_three_lines(self):
        for prime in (2, 3, 31):
            self.turned(prime, 3, [X, Y, Z], [SLANT, Z, X])
            self.turned(prime, 3, [X, Y, SLANT], [SLANT, X, Y])
            self.unlike(prime, 3, [X, Y, Z], [X, Y, SLANT])
            self.assertIn(turn_three(prime, 3, [X, Y, Z], [X, Y, SLANT]).at, (7, 8))

    def test_three_planes(self):
        for prime in (2, 3, 31):
            self.turned(prime, 3, [XY, XZ, YZ], [XZ, YZ, XY])
            through = [XY, XZ, [[1, 0, 0], [0, 1, 1]]]
            self.turned(prime, 3, through, through[::-1])
            self.unlike(prime, 3, through, [XY, XZ, YZ])

    def test_tied_and_not_tied(self):
        # Any two of these meet in nothing, whether or not each lies in the others joined.
        for prime in (2, 3, 31):
            whole = whole_room(4)
            one, two = whole[:2], whole[2:]
            tied = [[1, 0, 1, 0], [0, 1, 0, 1]]
            self.turned(prime, 4, [one, two, tied], [tied, one, two])
            line, other = [whole[0]], [[1, 0, 1, 0]]
            self.unlike(prime, 4, [line, [whole[1]], [whole[2]]], [line, [whole[2]], other])

    def test_in_their_turn(self):
        for prime in (2, 3, 31):
            flats = [X, XY, ALL]
            for others in itertools.permutations(flats):
                told = self.held(prime, 3, flats, list(others))
                self.assertIs(type(told) is Turned, list(others) == flats)


class Edges(Held):
    def test_no_rows_and_the_whole_room(self):
        for prime, places in ROOMS:
            whole = whole_room(places)
            for many in (1, 2, 3):
                for flats in itertools.product([[], whole], repeat=many):
                    self.turned(prime, places, list(flats), list(flats))
                self.unlike(prime, places, [[]] * many, [whole] * many)
                self.unlike(prime, places, [whole] * many, [whole] * (many - 1) + [[]])

    def test_the_same_flat_twice_and_thrice(self):
        chance = random.Random(127)
        for prime, places, _, flat in some_forms()[::4]:
            other = some_flat(prime, places, chance)
            for many in (1, 2, 3):
                told = self.held(prime, places, [flat] * many, [other] * many)
                self.assertIs(type(told) is Turned, len(flat) == len(other))

    def test_the_same_flats(self):
        chance = random.Random(131)
        for prime, places in ROOMS:
            flats = some_three(prime, places, chance)
            for many in (1, 2, 3):
                self.turned(prime, places, flats[:many], flats[:many])

    def test_one_place(self):
        for prime in (2, 3, 5, 31):
            for many in (1, 2, 3):
                known = [list(flats) for flats in itertools.product([[], [[1]]], repeat=many)]
                for flats, others in itertools.product(known, repeat=2):
                    told = self.held(prime, 1, flats, others)
                    self.assertIs(type(told) is Turned, flats == others)


class EachRoom(Held):
    def test_flats_turned_by_a_table(self):
        chance = random.Random(137)
        for prime, places in ROOMS:
            for _ in range(4):
                flats = some_three(prime, places, chance)
                others = turned_flats(prime, places, some_table(prime, places, chance), flats)
                for many in (1, 2, 3):
                    self.turned(prime, places, flats[:many], others[:many])
                    self.turned(prime, places, others[:many], flats[:many])

    def test_flats_turned_by_a_table_and_in_another_turn(self):
        chance = random.Random(139)
        kinds = []
        for prime, places in ROOMS:
            flats = some_three(prime, places, chance)
            others = turned_flats(prime, places, some_table(prime, places, chance), flats)
            for mixed_up in itertools.permutations(others):
                kinds.append(type(self.held(prime, places, flats, list(mixed_up))))
            self.held(prime, places, flats[:2], others[1::-1])
        self.assertGreater(min(kinds.count(Turned), kinds.count(Unlike)), 50)

    def test_flats_that_no_table_made_alike(self):
        chance = random.Random(149)
        kinds = []
        for prime, places in ROOMS:
            for _ in range(4):
                flats, others = some_three(prime, places, chance), some_three(prime, places, chance)
                for many in (1, 2, 3):
                    kinds.append(type(self.held(prime, places, flats[:many], others[:many])))
        self.assertGreater(min(kinds.count(Turned), kinds.count(Unlike)), 50)

    def test_three_flats_tied_in_several_rows(self):
        chance = random.Random(151)
        for prime, places in ROOMS:
            for many in range(1, places // 2 + 1):
                flats, others = [tied_three(prime, places, many, chance) for _ in range(2)]
                self.assertEqual(widths(prime, places, flats), [many] * 3 + [0] * 4 + [many, 2 * many])
                self.turned(prime, places, flats, others)
                self.turned(prime, places, flats, others[::-1])

    def test_tied_rows_beside_rows_of_each_kind(self):
        chance = random.Random(157)
        for prime in (2, 3, 7, 31):
            for _ in range(40):
                kinds = [chance.choice(["", "a", "b", "c", "ab", "ac", "bc", "abc"]) for _ in range(4)]
                flats, others = [self.by_kinds(prime, kinds, chance) for _ in range(2)]
                self.turned(prime, 6, flats, others)

    def by_kinds(self, prime, kinds, chance):
        """Three flats of a base: its first two rows tied, each other one in the flats of its kind's letters."""
        base = some_table(prime, 6, chance)
        rows = {"a": [base[0]], "b": [base[1]], "c": [together(prime, 6, [1, 1], base[:2])]}
        for row, kind in zip(base[2:], kinds):
            for letter in kind:
                rows[letter].append(row)
        return [form(prime, 6, rows[letter]) for letter in "abc"]


class SmallRooms(Held):
    """Held to all tables of the room, not to the widths."""

    def classes(self, prime, places, many):
        """For each list of so many flats, the first one that some table turns it to."""
        known = all_forms(prime, places)
        number = {frozenset(flat_of(prime, places, flat)): at for at, flat in enumerate(known)}
        rows = [flat_of(prime, places, flat) for flat in known]
        moves = [[number[frozenset(turned_rows(prime, places, table, each))] for each in rows]
                 for table in all_tables(prime, places)]
        return known, {at: min(tuple(move[one] for one in at) for move in moves)
                       for at in itertools.product(range(len(known)), repeat=many)}

    def test_just_those_that_a_table_turns(self):
        for prime, places, many, step in [(2, 2, 1, 1), (3, 2, 1, 1), (2, 3, 1, 1), (2, 2, 2, 1), (3, 2, 2, 1),
                                          (2, 2, 3, 11), (3, 2, 3, 47), (2, 3, 2, 61), (2, 3, 3, 15013)]:
            known, found = self.classes(prime, places, many)
            pairs = itertools.islice(itertools.product(found, repeat=2), 0, None, step)
            for at, to in pairs:
                flats, others = [known[one] for one in at], [known[one] for one in to]
                told = self.held(prime, places, flats, others)
                self.assertIs(type(told) is Turned, found[at] == found[to], (prime, flats, others))

    def test_each_kind_of_three_is_turned_to_its_first_one(self):
        for prime, places in [(2, 2), (3, 2), (2, 3)]:
            known, found = self.classes(prime, places, 3)
            for at in list(found)[::3]:
                self.turned(prime, places, [known[one] for one in at], [known[one] for one in found[at]])

    def test_never_both(self):
        tables = all_tables(2, 3)
        chance = random.Random(163)
        known = all_forms(2, 3)
        for many in (1, 2, 3):
            for _ in range(30):
                flats, others = [[chance.choice(known) for _ in range(many)] for _ in range(2)]
                turns = any(Turned(table).shows(2, 3, flats, others) for table in tables)
                unlike = any(Unlike(at).shows(2, 3, flats, others) for at in range(-1, 10))
                self.assertIs(turns, not unlike)
                self.assertIs(type(self.held(2, 3, flats, others)) is Turned, turns)

    def test_no_width_shows_what_a_table_turns_to_be_unlike(self):
        chance = random.Random(173)
        for prime, places in ROOMS:
            flats = some_three(prime, places, chance)
            others = turned_flats(prime, places, some_table(prime, places, chance), flats)
            for at in range(9):
                self.assertIs(Unlike(at).shows(prime, places, flats, others), False)


class OfOthers(Held):
    def test_what_was_told_of_some_says_whether_it_holds_of_others(self):
        chance = random.Random(167)
        shown = []
        for prime, places in [(2, 2), (2, 3), (3, 2), (3, 3), (5, 2)]:
            known = all_forms(prime, places)
            for _ in range(60):
                many = chance.randint(1, 3)
                flats, others, more, last = [[chance.choice(known) for _ in range(many)] for _ in range(4)]
                told = turn_each(prime, places, flats, others)
                if type(told) is Turned:
                    moved = turned_flats(prime, places, told.table, more)
                    self.assertIs(told.shows(prime, places, more, moved), True)
                    self.assertIs(told.shows(prime, places, more, last), moved == last)
                else:
                    here, there = [widths_by_rows(prime, places, some) for some in (more, last)]
                    self.assertIs(told.shows(prime, places, more, last), here[told.at] != there[told.at])
                    shown.append(here[told.at] != there[told.at])
        self.assertGreater(min(shown.count(True), shown.count(False)), 20)


if __name__ == "__main__":
    unittest.main()
