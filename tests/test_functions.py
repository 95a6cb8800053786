"""What holds of each function alike: its arguments, what it refuses and in which turn, what stays as it was."""

import copy
import inspect
import itertools
import unittest

from flatroom.chains import across_chain, both, chain_of
from flatroom.counting import beside_many, between, cells, chains, flat_by, how_many, in_cell, number_of
from flatroom.errors import BadChain, BadCorners, BadFlat, BadNumber, BadRoom, BadRow, BadTable, BadWidth, NotInside
from flatroom.forms import corners, form
from flatroom.lying import across, lies
from flatroom.meeting import beside, inside, joined, met
from flatroom.tables import behind, row_turned, tables, turned_by, undone
from flatroom.turning import turn, turn_three, turn_two, widths
from tests.helper import (
    NO_COUNTS, NO_PRIMES, deep_list, holding_itself, no_chains_of_five, no_corners_of_two, no_flat_lists_of_five,
    no_forms_of_five, no_lists, no_numbers, no_rows_of_five, no_tables_of_five, no_widths_of_two, odd_numbers, raised,
    whole_room,
)

# Each function, with what it is handed behind the prime and the places, and of which kind that is.
FUNCTIONS = [
    (form, {"rows": "rows"}),
    (corners, {"flat": "flat"}),
    (lies, {"flat": "flat", "row": "row"}),
    (across, {"flat": "flat"}),
    (joined, {"one": "flat", "other": "wide"}),
    (met, {"one": "flat", "other": "wide"}),
    (inside, {"one": "flat", "other": "wide"}),
    (beside, {"one": "flat", "other": "wide"}),
    (how_many, {"width": "width"}),
    (cells, {"width": "width"}),
    (in_cell, {"corners": "corners"}),
    (flat_by, {"width": "width", "number": "number"}),
    (number_of, {"flat": "flat"}),
    (between, {"low": "flat", "high": "wide", "width": "width"}),
    (beside_many, {"flat": "flat"}),
    (chains, {}),
    (row_turned, {"table": "table", "row": "row"}),
    (turned_by, {"table": "table", "flat": "flat"}),
    (behind, {"one": "table", "other": "table"}),
    (undone, {"table": "table"}),
    (tables, {}),
    (widths, {"flats": "some"}),
    (turn, {"one": "flat", "other": "wide"}),
    (turn_two, {"flats": "two", "others": "two"}),
    (turn_three, {"flats": "three", "others": "three"}),
    (chain_of, {"table": "table"}),
    (across_chain, {"chain": "chain"}),
    (both, {"one": "chain", "other": "chain"}),
]
# What each kind may be with two places over 5, how it is refused, and what is to be refused.
GOOD = {
    "rows": [[3, 4]], "flat": [[1, 2]], "wide": whole_room(2), "row": [4, 0], "width": 1, "corners": [1], "number": 5,
    "table": [[2, 1], [0, 3]], "chain": [[], [[1, 2]], whole_room(2)], "some": [[[1, 2]]],
    "two": [[[1, 2]], []], "three": [[[1, 2]], [], whole_room(2)],
}
REFUSED = {
    "rows": BadRow, "flat": BadFlat, "wide": BadFlat, "row": BadRow, "width": BadWidth, "corners": BadCorners,
    "number": BadNumber, "table": BadTable, "chain": BadChain, "some": BadFlat, "two": BadFlat, "three": BadFlat,
}
BAD = {
    "rows": no_lists() + [[odd] for odd in no_rows_of_five()] + [[[1, 0]] * 21, deep_list()],
    "flat": no_forms_of_five() + [deep_list()],
    "wide": no_forms_of_five() + [deep_list()],
    "row": no_rows_of_five() + [deep_list()],
    "width": no_widths_of_two(),
    "corners": no_corners_of_two(),
    # Of width 1 there are six flats over 5.
    "number": odd_numbers() + [-1, -6, -7, 6, 7, 10 ** 40, -10 ** 40],
    "table": no_tables_of_five(),
    "chain": no_chains_of_five(),
    "some": no_flat_lists_of_five((1, 2, 3)),
    "two": no_flat_lists_of_five((2,)),
    "three": no_flat_lists_of_five((3,)),
}


def good(kinds):
    """What is no fault, for each argument."""
    return [copy.deepcopy(GOOD[kind]) for kind in kinds.values()]


def with_faults(kinds, faults):
    """Arguments with these faults at these places."""
    told = good(kinds)
    for at, odd in faults.items():
        told[at] = odd
    return told


class Arguments(unittest.TestCase):
    def test_they_have_the_names_that_are_told(self):
        for function, kinds in FUNCTIONS:
            self.assertEqual(list(inspect.signature(function).parameters), ["prime", "places", *kinds], function)

    def test_what_is_no_fault_is_taken(self):
        for function, kinds in FUNCTIONS:
            self.assertIs(raised(function, 5, 2, *good(kinds)), None, function)
            named = dict(zip(kinds, good(kinds)))
            self.assertIs(raised(lambda: function(places=2, prime=5, **named)), None, function)


class Refusals(unittest.TestCase):
    def test_rooms_that_are_none(self):
        for function, kinds in FUNCTIONS:
            for odd in NO_PRIMES + no_numbers() + [[], [5], [[5]], holding_itself(), deep_list()]:
                self.assertIs(raised(function, odd, 2, *good(kinds)), BadRoom, function)
            for odd in NO_COUNTS + no_numbers() + [[], [2], [[2]], holding_itself(), deep_list()]:
                self.assertIs(raised(function, 5, odd, *good(kinds)), BadRoom, function)

    def test_bad_room_ahead_of_all_else(self):
        for function, kinds in FUNCTIONS:
            for at, kind in enumerate(kinds.values()):
                for odd in BAD[kind]:
                    told = with_faults(kinds, {at: odd})
                    self.assertIs(raised(function, 4, 2, *told), BadRoom, function)
                    self.assertIs(raised(function, 5, True, *told), BadRoom, function)
                    self.assertIs(raised(function, None, 7, *told), BadRoom, function)

    def test_each_argument_alone(self):
        for function, kinds in FUNCTIONS:
            for at, kind in enumerate(kinds.values()):
                for number, odd in enumerate(BAD[kind]):
                    told = with_faults(kinds, {at: odd})
                    self.assertIs(raised(function, 5, 2, *told), REFUSED[kind], (function, kind, number))

    def test_of_two_faults_the_first_handed_in(self):
        for function, kinds in FUNCTIONS:
            listed = list(kinds.values())
            for one, other in itertools.combinations(range(len(listed)), 2):
                for odd in BAD[listed[one]]:
                    for too in (None, True, "1", (1,), -1, 10 ** 40, [[5, 0]], [[[1]]] * 30, holding_itself()):
                        told = with_faults(kinds, {one: odd, other: too})
                        self.assertIs(raised(function, 5, 2, *told), REFUSED[listed[one]], function)
                for odd in BAD[listed[other]]:
                    for too in (None, False, "", -1, [[0, 0]], [[[1]]] * 30):
                        told = with_faults(kinds, {one: too, other: odd})
                        self.assertIs(raised(function, 5, 2, *told), REFUSED[listed[one]], function)

    def test_what_is_of_another_room(self):
        there = {"flat": [[1, 4]], "wide": [[1, 4]], "row": [3, 4], "rows": [[3, 4]], "width": 2, "corners": [0, 1],
                 "table": [[4, 3], [0, 1]], "chain": [[], [[1, 4]], whole_room(2)], "some": [[[1, 4]]],
                 "two": [[[1, 4]]] * 2, "three": [[[1, 4]]] * 3}
        for function, kinds in FUNCTIONS:
            for at, kind in enumerate(kinds.values()):
                told = [copy.deepcopy(there.get(each, 0)) for each in kinds.values()]
                if at == 0 and kind not in ("width", "corners"):
                    for prime, places in [(3, 2), (5, 3), (5, 1)]:
                        self.assertIs(raised(function, prime, places, *told), REFUSED[kind], function)
                elif at == 0:
                    self.assertIs(raised(function, 5, 1, *told), REFUSED[kind], function)

    def test_not_inside_behind_bad_flat(self):
        line, other = [[1, 2]], [[1, 3]]
        for function, more in ((beside, []), (between, [1]), (between, [3]), (between, [None])):
            self.assertIs(raised(function, 5, 2, line, other, *more), NotInside)
            self.assertIs(raised(function, 5, 2, whole_room(2), line, *more), NotInside)
            self.assertIs(raised(function, 5, 2, line, [], *more), NotInside)
            for odd in no_forms_of_five():
                self.assertIs(raised(function, 5, 2, line, odd, *more), BadFlat)
                self.assertIs(raised(function, 5, 2, odd, line, *more), BadFlat)
                self.assertIs(raised(function, 5, 2, odd, [], *more), BadFlat)
            self.assertIs(raised(function, 6, 2, line, other, *more), BadRoom)
            self.assertIs(raised(function, 5, 0, line, other, *more), BadRoom)

    def test_bad_width_behind_not_inside(self):
        for odd in no_widths_of_two():
            self.assertIs(raised(between, 5, 2, [[1, 2]], [[1, 3]], odd), NotInside)
            self.assertIs(raised(between, 5, 2, whole_room(2), [], odd), NotInside)
            self.assertIs(raised(between, 5, 2, [], whole_room(2), odd), BadWidth)

    def test_bad_number_behind_bad_width(self):
        for odd in no_widths_of_two():
            for number in (None, True, -1, 0, 6, 10 ** 40, [0]):
                self.assertIs(raised(flat_by, 5, 2, odd, number), BadWidth)
        for width, many in [(0, 1), (1, 6), (2, 1)]:
            for number in (-1, many, many + 1, 10 ** 40, True, False, None, "0", [0]):
                self.assertIs(raised(flat_by, 5, 2, width, number), BadNumber)
            self.assertIs(raised(flat_by, 5, 2, width, many - 1), None)


def spoilt(told):
    """Change a list, and the lists within it, in place."""
    for part in told:
        if type(part) is list:
            spoilt(part)
    told[:] = [-7] + told[1:] + [-8]


def plain(told):
    """What is told, an answer as its class and its fields, copied."""
    return copy.deepcopy(told if type(told) in (list, bool, int) else (type(told), vars(told)))


def lists_of(told):
    """The lists of what is told, or of the fields of an answer."""
    parts = [told] if type(told) in (list, bool, int) else vars(told).values()
    return [part for part in parts if type(part) is list]


def all_lists(told):
    """A list and all lists within it."""
    return [told] + [inner for part in told if type(part) is list for inner in all_lists(part)]


class NothingChangedOrKept(unittest.TestCase):
    def calls(self):
        """Each function with arguments of several kinds: of no rows, of some, of the whole room, both alike."""
        whole, plane, line = whole_room(3), [[1, 0, 3], [0, 1, 2]], [[1, 0, 3]]
        flats = [[], line, plane, whole]
        listed = [whole, [[0, 2, 1], [1, 0, 0], [3, 4, 4]], [[0, 0, 1], [0, 1, 0], [1, 0, 0]]]
        led = [flats, [[], [[0, 0, 1]], [[0, 1, 0], [0, 0, 1]], whole], [[], line, [[1, 0, 3], [0, 1, 0]], whole]]
        alone = (form, corners, across, number_of, beside_many)
        calls = [(function, [flat]) for function in alone for flat in flats]
        calls += [(lies, [flat, row]) for flat in flats for row in ([0, 0, 0], [2, 0, 1], [1, 1, 1])]
        calls += [(function, [one, other]) for function in (joined, met, inside, turn) for one in flats
                  for other in flats]
        lower = [(flats[one], flats[other]) for other in range(4) for one in range(other + 1)]
        calls += [(beside, [one, other]) for one, other in lower]
        calls += [(between, [one, other, width]) for one, other in lower for width in range(4)]
        calls += [(function, [width]) for function in (how_many, cells) for width in range(4)]
        calls += [(in_cell, [told]) for told in ([], [0], [1, 2], [0, 1, 2])]
        calls += [(flat_by, [width, 0]) for width in range(4)] + [(flat_by, [1, 30]), (flat_by, [2, 30])]
        calls += [(function, []) for function in (chains, tables)]
        calls += [(function, [table]) for function in (undone, chain_of) for table in listed]
        calls += [(behind, [one, other]) for one in listed for other in listed]
        calls += [(row_turned, [table, [1, 2, 0]]) for table in listed]
        calls += [(turned_by, [table, flat]) for table in listed for flat in flats]
        calls += [(across_chain, [chain]) for chain in led]
        calls += [(both, [one, other]) for one in led for other in led]
        calls += [(widths, [flats[:many]]) for many in (1, 2, 3)]
        calls += [(turn_two, [[one, line], [line, other]]) for one in flats for other in flats]
        return calls + [(turn_three, [[one, line, plane], [line, other, plane]]) for one in flats for other in flats]

    def test_each_function_is_called(self):
        called = {function for function, _ in self.calls()}
        self.assertEqual(called, {function for function, _ in FUNCTIONS})

    def test_what_is_handed_in_stays(self):
        for function, told in self.calls():
            handed = copy.deepcopy(told)
            inner = all_lists(handed)
            function(5, 3, *handed)
            self.assertEqual(handed, told, function)
            self.assertTrue(all(one is other for one, other in zip(all_lists(handed), inner, strict=True)), function)

    def test_what_is_told_is_new(self):
        for function, told in self.calls():
            handed = copy.deepcopy(told)
            first, second = function(5, 3, *handed), function(5, 3, *handed)
            found = [id(part) for each in (handed, *lists_of(first), *lists_of(second)) for part in all_lists(each)]
            # Some lists are handed in at two places; none that is told is.
            known = {id(part) for part in all_lists(handed)}
            new = [number for number in found if number not in known]
            self.assertEqual(len(new), len(set(new)), function)
            told_parts = [part for each in (first, second) for one in lists_of(each) for part in all_lists(one)]
            self.assertEqual(len(told_parts), len(new), function)

    def test_what_is_told_is_changed_without_a_trace(self):
        for function, told in self.calls():
            handed = copy.deepcopy(told)
            first = function(5, 3, *handed)
            expected = plain(first)
            for part in lists_of(first):
                spoilt(part)
            self.assertEqual(handed, told, function)
            self.assertEqual(plain(function(5, 3, *handed)), expected, function)

    def test_what_was_handed_in_is_changed_without_a_trace(self):
        for function, told in self.calls():
            handed = copy.deepcopy(told)
            first = function(5, 3, *handed)
            expected = plain(first)
            for part in handed:
                if type(part) is list:
                    spoilt(part)
            self.assertEqual(plain(first), expected, function)
            self.assertEqual(plain(function(5, 3, *copy.deepcopy(told))), expected, function)

    def test_one_list_handed_in_twice(self):
        for function in (joined, met, inside, beside, turn):
            flat = [[1, 0, 3], [0, 1, 2]]
            told = function(5, 3, flat, flat)
            for part in lists_of(told):
                spoilt(part)
            self.assertEqual(flat, [[1, 0, 3], [0, 1, 2]], function)

    def test_one_list_at_two_places_or_twice_within_a_list(self):
        plane, table, chain = [[1, 0, 3], [0, 1, 2]], [[0, 2, 1], [1, 0, 0], [3, 4, 4]], [[], [[1, 0, 3]]]
        chain += [[[1, 0, 3], [0, 1, 2]], whole_room(3)]
        two, three = [plane, plane], [plane, plane, plane]
        calls = [(between, [plane, plane, 2]), (behind, [table, table]), (both, [chain, chain]),
                 (turn, [plane, plane]), (turn_two, [two, two]), (turn_three, [three, three]),
                 (widths, [two]), (widths, [three])]
        for function, handed in calls:
            before = copy.deepcopy(handed)
            first = function(5, 3, *handed)
            # A copy of each argument has no list at two places any more.
            apart = [self.apart(part) for part in handed]
            self.assertEqual(plain(function(5, 3, *apart)), plain(first), function)
            for part in lists_of(first):
                spoilt(part)
            self.assertEqual(handed, before, function)

    def apart(self, told):
        return [self.apart(part) for part in told] if type(told) is list else told

    def test_lists_changed_in_place_are_told_as_they_are_then(self):
        flat, table, chain = [[1, 2]], [[2, 1], [0, 3]], [[], [[1, 2]], whole_room(2)]
        flats, led = [flat, [[0, 1]]], [0]
        calls = [(function, [flat]) for function in (corners, across, number_of, beside_many)]
        calls += [(turn, [flat, [[1, 1]]]), (between, [[], flat, 1]), (row_turned, [table, [1, 3]]), (undone, [table])]
        calls += [(turned_by, [table, flat]), (behind, [table, table]), (chain_of, [table]), (across_chain, [chain])]
        calls += [(both, [chain, chain]), (both, [chain, [[], [[1, 0]], whole_room(2)]]), (widths, [flats])]
        calls += [(turn_two, [flats, [[[1, 0]], [[0, 1]]]]), (in_cell, [led])]
        for function, handed in calls:
            function(5, 2, *handed)
        flat[0][:] = [0, 1]
        table[1][0] = 4
        chain[1][0][1] = 0
        flats.append([])
        flats.pop(0)
        led[0] = 1
        for function, handed in calls:
            fresh = copy.deepcopy(handed)
            self.assertEqual(plain(function(5, 2, *handed)), plain(function(5, 2, *fresh)), function)
        self.assertEqual(number_of(5, 2, flat), 5)
        self.assertEqual(in_cell(5, 2, led), 1)
        self.assertEqual(widths(5, 2, flats), [1, 0, 0])
        self.assertEqual(row_turned(5, 2, table, [1, 3]), [4, 0])
        self.assertEqual(chain_of(5, 2, table)[1], [[1, 3]])
        flat[0][0] = 2
        self.assertIs(raised(number_of, 5, 2, flat), BadFlat)
        table[1][:] = [4, 2]
        self.assertIs(raised(undone, 5, 2, table), BadTable)
        chain.append(whole_room(2))
        self.assertIs(raised(across_chain, 5, 2, chain), BadChain)


if __name__ == "__main__":
    unittest.main()
