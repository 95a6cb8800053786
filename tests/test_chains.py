"""Chains: of a table, across one, and two led along one base: points 22, 23 and 24."""

import itertools
import random
import unittest

from flatroom.answers import Along
from flatroom.chains import across_chain, both, chain_of
from flatroom.errors import BadChain
from flatroom.forms import form
from flatroom.lying import across
from flatroom.meeting import met
from tests.helper import (
    ROOMS, all_chains, all_forms, all_rows, all_tables, breaks_form, flat_of, picked, raised, rows_by_form, some_table,
    two_make, whole_room,
)


def some_chain(prime, places, chance):
    """A chain by chance: of the first rows of a table."""
    table = some_table(prime, places, chance)
    return [form(prime, places, table[:width]) for width in range(places + 1)]


def led_along(prime, places, base, order):
    """The second chain that point 24 tells of a base and an order."""
    return [form(prime, places, [row for row, number in zip(base, order) if number < width])
            for width in range(places + 1)]


def order_by_widths(prime, places, one, other):
    """The order that the widths of what the chains' flats meet in leave as the only one."""
    wide = [[len(met(prime, places, low, high)) for high in other] for low in one]
    order = []
    for step in range(places):
        grown = [wide[step + 1][at] - wide[step][at] for at in range(places + 1)]
        order.append(grown.index(1) - 1)
    return order


class ChainOf(unittest.TestCase):
    def test_by_hand(self):
        self.assertEqual(chain_of(5, 1, [[3]]), [[], [[1]]])
        self.assertEqual(chain_of(5, 3, [[0, 2, 4], [3, 0, 0], [0, 0, 1]]),
                         [[], [[0, 1, 2]], [[1, 0, 0], [0, 1, 2]], whole_room(3)])

    def test_all_tables_of_small_rooms(self):
        for prime, places in [(2, 1), (2, 2), (2, 3), (3, 2), (5, 1)]:
            known, found = all_chains(prime, places), []
            for table in all_tables(prime, places):
                told = chain_of(prime, places, table)
                self.assertIn(told, known)
                for width in range(places + 1):
                    self.assertEqual(flat_of(prime, places, told[width]), flat_of(prime, places, table[:width]))
                found.append(told)
            self.assertEqual(sorted(known), sorted(chain for at, chain in enumerate(found) if chain not in found[:at]))

    def test_each_room(self):
        chance = random.Random(179)
        for prime, places in ROOMS:
            table = some_table(prime, places, chance)
            told = chain_of(prime, places, table)
            self.assertEqual(told, [form(prime, places, table[:width]) for width in range(places + 1)])
            self.assertEqual([len(flat) for flat in told], list(range(places + 1)))
            whole = whole_room(places)
            self.assertEqual(chain_of(prime, places, whole), [whole[:width] for width in range(places + 1)])


class WhatIsNoChain(unittest.TestCase):
    def test_all_lists_of_flats_of_small_rooms(self):
        for prime, places in [(2, 1), (2, 2), (3, 1), (3, 2)]:
            known = all_chains(prime, places)
            for many in range(places + 3):
                for flats in itertools.product(all_forms(prime, places), repeat=many):
                    expected = None if list(flats) in known else BadChain
                    self.assertIs(raised(across_chain, prime, places, list(flats)), expected, flats)

    def test_flats_of_the_right_widths_but_not_inside(self):
        known = rows_by_form(2, 3)
        good = 0
        for one, rows in known:
            for two, more in known:
                if len(one) == 1 and len(two) == 2:
                    chain = [[], one, two, whole_room(3)]
                    expected = None if rows <= more else BadChain
                    good += expected is None
                    self.assertIs(raised(across_chain, 2, 3, chain), expected)
                    self.assertIs(raised(both, 2, 3, chain, chain), expected)
        self.assertEqual(good, 21)

    def test_one_flat_of_a_chain_spoilt(self):
        chance = random.Random(181)
        for prime, places in ROOMS:
            chain, whole = some_chain(prime, places, chance), whole_room(places)
            odd = [chain[1:], chain[:-1], chain[::-1], chain + [whole], [[]] + chain, chain[:1] + chain]
            for at in range(places + 1):
                wrong = [None, [[0] * places], [[prime] + [0] * (places - 1)], [[1] + [0] * places], ((1,),), 0]
                odd += [chain[:at] + [flat] + chain[at + 1:] for flat in wrong]
                odd += [chain[:at] + chain[at + 1:], chain[:at] + [chain[at]] + chain[at:]]
                if at < places:
                    odd.append(chain[:at] + [chain[at + 1], chain[at]] + chain[at + 2:])
            for told in odd:
                self.assertIs(raised(across_chain, prime, places, told), BadChain)
                self.assertIs(raised(both, prime, places, told, chain), BadChain)
                self.assertIs(raised(both, prime, places, chain, told), BadChain)

    def test_forms_written_in_another_way(self):
        chain = [[], [[1, 2, 0]], [[1, 2, 0], [0, 0, 1]], whole_room(3)]
        self.assertIs(raised(across_chain, 5, 3, chain), None)
        for at, flat in [(1, [[2, 4, 0]]), (2, [[0, 0, 1], [1, 2, 0]]), (2, [[1, 2, 3], [0, 0, 1]]),
                         (3, whole_room(3)[::-1]), (0, [[0, 0, 0]])]:
            self.assertIs(raised(across_chain, 5, 3, chain[:at] + [flat] + chain[at + 1:]), BadChain)


class AcrossChain(unittest.TestCase):
    def test_by_hand(self):
        chain = [[], [[1, 2, 0]], [[1, 2, 0], [0, 0, 1]], whole_room(3)]
        self.assertEqual(across_chain(5, 3, chain), [[], [[1, 2, 0]], [[1, 2, 0], [0, 0, 1]], whole_room(3)])
        chain = [[], [[1, 1, 0]], [[1, 0, 0], [0, 1, 0]], whole_room(3)]
        self.assertEqual(across_chain(5, 3, chain), [[], [[0, 0, 1]], [[1, 4, 0], [0, 0, 1]], whole_room(3)])
        self.assertEqual(across_chain(5, 1, [[], [[1]]]), [[], [[1]]])

    def test_all_chains_of_small_rooms(self):
        for prime, places in [(2, 1), (2, 2), (2, 3), (3, 2), (3, 3), (5, 2)]:
            known = all_chains(prime, places)
            rows = all_rows(prime, places)
            crossing = {}
            for flat in all_forms(prime, places):
                nought = [row for row in rows if not any(two_make(prime, row, own) for own in flat)]
                crossing[str(flat)] = {tuple(row) for row in nought}
            for chain in known:
                told = across_chain(prime, places, chain)
                self.assertIn(told, known)
                for flat, own in zip(told, reversed(chain), strict=True):
                    self.assertEqual(flat_of(prime, places, flat), crossing[str(own)])

    def test_across_twice_is_the_chain_itself(self):
        chance = random.Random(191)
        for prime, places in ROOMS:
            for _ in range(4):
                chain = some_chain(prime, places, chance)
                told = across_chain(prime, places, chain)
                self.assertEqual(across_chain(prime, places, told), chain)
                self.assertEqual(told[::-1], [across(prime, places, flat) for flat in chain])
                self.assertTrue(all(breaks_form(prime, places, flat) is None for flat in told))


class Both(unittest.TestCase):
    def held(self, prime, places, one, other):
        told = both(prime, places, one, other)
        self.assertIs(type(told), Along)
        base, order = told.base, told.order
        self.assertEqual([len(row) for row in base], [places] * places)
        self.assertTrue(all(type(number) is int and 0 <= number < prime for row in base for number in row))
        self.assertEqual(sorted(order), list(range(places)))
        self.assertTrue(all(type(number) is int for number in order))
        self.assertEqual([form(prime, places, base[:width]) for width in range(places + 1)], one, (one, other))
        self.assertEqual(led_along(prime, places, base, order), other, (one, other))
        self.assertIs(told.shows(prime, places, one, other), True)
        return told

    def test_by_hand(self):
        whole = whole_room(3)
        one = [[], whole[:1], whole[:2], whole]
        other = [[], whole[2:], [whole[0], whole[2]], whole]
        self.assertEqual(self.held(5, 3, one, other).order, [1, 2, 0])
        self.assertEqual(self.held(5, 3, other, one).order, [2, 0, 1])
        self.assertEqual(self.held(5, 1, [[], [[1]]], [[], [[1]]]).order, [0])

    def test_all_pairs_of_small_rooms(self):
        for prime, places in [(2, 1), (2, 2), (2, 3), (3, 2), (5, 2), (31, 1)]:
            orders = set()
            for one, other in itertools.product(all_chains(prime, places), repeat=2):
                told = self.held(prime, places, one, other)
                self.assertEqual(told.order, order_by_widths(prime, places, one, other))
                orders.add(tuple(told.order))
            self.assertEqual(sorted(orders), list(itertools.permutations(range(places))))

    def test_some_pairs_of_middling_rooms(self):
        for prime, places, step in [(3, 3, 7), (2, 4, 199)]:
            pairs = itertools.product(all_chains(prime, places), repeat=2)
            for one, other in itertools.islice(pairs, 0, None, step):
                told = self.held(prime, places, one, other)
                self.assertEqual(told.order, order_by_widths(prime, places, one, other))

    def test_of_a_chain_and_itself(self):
        chance = random.Random(193)
        for prime, places in ROOMS:
            chain = some_chain(prime, places, chance)
            self.assertEqual(self.held(prime, places, chain, chain).order, list(range(places)))

    def test_each_order_in_each_room(self):
        chance = random.Random(197)
        for prime, places in ROOMS:
            for _ in range(4):
                base = some_table(prime, places, chance)
                order = chance.sample(range(places), places)
                one = [form(prime, places, base[:width]) for width in range(places + 1)]
                other = led_along(prime, places, base, order)
                self.assertEqual(self.held(prime, places, one, other).order, order)
                # The other way round each row has the number that it had as its place.
                back = [order.index(number) for number in range(places)]
                self.assertEqual(self.held(prime, places, other, one).order, back)

    def test_any_two_chains_in_each_room(self):
        chance = random.Random(199)
        for prime, places in ROOMS:
            one, other = some_chain(prime, places, chance), some_chain(prime, places, chance)
            told = self.held(prime, places, one, other)
            self.assertEqual(told.order, order_by_widths(prime, places, one, other))

    def test_the_first_rows_against_the_last_ones(self):
        for prime, places in ROOMS:
            whole = whole_room(places)
            one = [whole[:width] for width in range(places + 1)]
            other = [picked(whole, range(places - width, places)) for width in range(places + 1)]
            self.assertEqual(self.held(prime, places, one, other).order, list(range(places))[::-1])

    def test_what_was_told_of_some_says_whether_it_holds_of_others(self):
        chance = random.Random(211)
        for prime, places in [(2, 2), (2, 3), (3, 2)]:
            known = all_chains(prime, places)
            for _ in range(30):
                told = self.held(prime, places, chance.choice(known), chance.choice(known))
                for one, other in itertools.product(known[::2], repeat=2):
                    leads = ([form(prime, places, told.base[:width]) for width in range(places + 1)] == one
                             and led_along(prime, places, told.base, told.order) == other)
                    self.assertIs(told.shows(prime, places, one, other), leads)


if __name__ == "__main__":
    unittest.main()
