"""What holds of each function alike: its arguments, what it refuses and in which turn, what stays as it was."""

import copy
import inspect
import unittest

from flatroom.errors import BadFlat, BadRoom, BadRow, NotInside
from flatroom.forms import corners, form
from flatroom.lying import across, lies
from flatroom.meeting import beside, inside, joined, met
from tests.helper import (
    NO_COUNTS, NO_PRIMES, holding_itself, no_forms_of_five, no_lists, no_numbers, no_rows_of_five, raised, whole_room,
)

# Each function, with what it is handed behind the prime and the places.
FUNCTIONS = [
    (form, ["rows"]), (corners, ["flat"]), (lies, ["flat", "row"]), (across, ["flat"]), (joined, ["one", "other"]),
    (met, ["one", "other"]), (inside, ["one", "other"]), (beside, ["one", "other"]),
]
# What each argument may be with two places over 5, and how it is refused.
GOOD = {"rows": [[3, 4]], "flat": [[1, 2]], "row": [4, 0], "one": [[1, 2]], "other": [[1, 0], [0, 1]]}
REFUSED = {"rows": BadRow, "flat": BadFlat, "row": BadRow, "one": BadFlat, "other": BadFlat}


def good(names):
    """What is no fault, for each argument."""
    return [copy.deepcopy(GOOD[name]) for name in names]


def bad(name):
    """Faults of many kinds for one argument."""
    if name == "row":
        return no_rows_of_five()
    if name == "rows":
        return no_lists() + [[odd] for odd in no_rows_of_five()]
    return no_forms_of_five()


class Arguments(unittest.TestCase):
    def test_they_have_the_names_that_are_told(self):
        for function, names in FUNCTIONS:
            self.assertEqual(list(inspect.signature(function).parameters), ["prime", "places"] + names, function)

    def test_what_is_no_fault_is_taken(self):
        for function, names in FUNCTIONS:
            self.assertIs(raised(function, 5, 2, *good(names)), None, function)


class Refusals(unittest.TestCase):
    def test_rooms_that_are_none(self):
        for function, names in FUNCTIONS:
            for odd in NO_PRIMES + no_numbers() + [[], [5], [[5]], holding_itself()]:
                self.assertIs(raised(function, odd, 2, *good(names)), BadRoom, (function, odd))
            for odd in NO_COUNTS + no_numbers() + [[], [2], [[2]], holding_itself()]:
                self.assertIs(raised(function, 5, odd, *good(names)), BadRoom, function)

    def test_bad_room_ahead_of_all_else(self):
        for function, names in FUNCTIONS:
            for at, name in enumerate(names):
                for odd in bad(name):
                    told = good(names)
                    told[at] = odd
                    self.assertIs(raised(function, 4, 2, *told), BadRoom, function)
                    self.assertIs(raised(function, 5, True, *told), BadRoom, function)
                    self.assertIs(raised(function, None, 7, *told), BadRoom, function)

    def test_each_argument_alone(self):
        for function, names in FUNCTIONS:
            for at, name in enumerate(names):
                for odd in bad(name):
                    told = good(names)
                    told[at] = odd
                    self.assertIs(raised(function, 5, 2, *told), REFUSED[name], (function, name))

    def test_of_two_faults_the_first_handed_in(self):
        for odd in no_forms_of_five():
            for row in (None, [1], [5, 0], [True, 0], [[1, 0]], holding_itself()):
                self.assertIs(raised(lies, 5, 2, odd, row), BadFlat)
        for odd in no_rows_of_five():
            self.assertIs(raised(lies, 5, 2, [[2, 0]], odd), BadFlat)
            self.assertIs(raised(lies, 5, 2, [[1, 0]], odd), BadRow)

    def test_flats_of_another_room(self):
        for function, names in FUNCTIONS[1:]:
            self.assertIs(raised(function, 3, 2, *[[[1, 4]]] * len(names)), BadFlat, function)
            self.assertIs(raised(function, 5, 3, *[[[1, 4]]] * len(names)), BadFlat, function)
            self.assertIs(raised(function, 5, 1, *[[[1, 4]]] * len(names)), BadFlat, function)

    def test_not_inside_behind_bad_flat(self):
        line, other = [[1, 2]], [[1, 3]]
        self.assertIs(raised(beside, 5, 2, line, other), NotInside)
        self.assertIs(raised(beside, 5, 2, whole_room(2), line), NotInside)
        self.assertIs(raised(beside, 5, 2, line, []), NotInside)
        for odd in no_forms_of_five():
            self.assertIs(raised(beside, 5, 2, line, odd), BadFlat)
            self.assertIs(raised(beside, 5, 2, odd, line), BadFlat)
            self.assertIs(raised(beside, 5, 2, odd, []), BadFlat)
        self.assertIs(raised(beside, 6, 2, line, other), BadRoom)
        self.assertIs(raised(beside, 5, 0, line, other), BadRoom)


def spoilt(told):
    """Change a list, and the lists within it, in place."""
    for part in told:
        if type(part) is list:
            spoilt(part)
    told[:] = [-7] + told[1:] + [-8]


def plain(told):
    """What is told, an answer as its class and its fields, copied."""
    return copy.deepcopy(told if type(told) in (list, bool) else (type(told), vars(told)))


def lists_of(told):
    """The lists of what is told, or of the fields of an answer."""
    return [part for part in ([told] if type(told) in (list, bool) else vars(told).values()) if type(part) is list]


class NothingChangedOrKept(unittest.TestCase):
    def calls(self):
        """Each function with arguments of several kinds: of no rows, of some, of the whole room, both alike."""
        whole, plane, line = whole_room(3), [[1, 0, 3], [0, 1, 2]], [[1, 0, 3]]
        flats = [[], line, plane, whole]
        calls = [(function, [flat]) for function in (form, corners, across) for flat in flats]
        calls += [(lies, [flat, row]) for flat in flats for row in ([0, 0, 0], [2, 0, 1], [1, 1, 1])]
        calls += [(function, [one, other]) for function in (joined, met, inside) for one in flats for other in flats]
        calls += [(beside, [flats[one], flats[other]]) for other in range(4) for one in range(other + 1)]
        return calls

    def test_what_is_handed_in_stays(self):
        for function, told in self.calls():
            handed = copy.deepcopy(told)
            inner = [list(part) for part in handed]
            function(5, 3, *handed)
            self.assertEqual(handed, told, function)
            for part, rows in zip(handed, inner):
                self.assertTrue(all(one is other for one, other in zip(part, rows)), function)

    def test_what_is_told_is_changed_without_a_trace(self):
        for function, told in self.calls():
            handed = copy.deepcopy(told)
            first = function(5, 3, *handed)
            expected = plain(first)
            for part in lists_of(first):
                spoilt(part)
            self.assertEqual(handed, told, function)
            self.assertEqual(plain(function(5, 3, *handed)), expected, function)

    def test_what_was_handed_in_is_changed_without_a_trace(self):
        for function, told in self.calls():
            handed = copy.deepcopy(told)
            first = function(5, 3, *handed)
            expected = plain(first)
            for part in handed:
                spoilt(part)
            self.assertEqual(plain(first), expected, function)
            self.assertEqual(plain(function(5, 3, *copy.deepcopy(told))), expected, function)

    def test_one_list_handed_in_twice(self):
        for function in (joined, met, inside, beside):
            flat = [[1, 0, 3], [0, 1, 2]]
            told = function(5, 3, flat, flat)
            for part in lists_of(told):
                spoilt(part)
            self.assertEqual(flat, [[1, 0, 3], [0, 1, 2]], function)


if __name__ == "__main__":
    unittest.main()
