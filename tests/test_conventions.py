"""[2] and the interface: names, arguments, new lists, and arguments that stay as they are."""

import copy
import inspect
import unittest

from slitdiscs import discs, lights
from tests.samples import FUNCTIONS, right_calls

INTERFACE = {
    discs: {
        "is_disc": ["value"], "is_slotted": ["value"], "turned_disc": ["disc", "turn"],
        "mirrored_disc": ["disc"], "disc_period": ["disc"], "turn_between": ["disc", "other"],
        "least_disc": ["disc"], "like_form": ["disc"], "are_like": ["disc", "other"],
    },
    lights: {
        "light_at": ["disc", "other", "turn"], "all_lights": ["disc", "other"],
        "row_lights": ["disc", "row"], "brightest_turns": ["disc", "other"],
        "light_sum": ["disc", "other", "first", "step", "many"],
        "first_bright": ["disc", "other", "first", "step", "light"],
    },
}


class InterfaceTest(unittest.TestCase):
    def test_each_function_stands_in_its_file(self):
        for module, functions in INTERFACE.items():
            for name, arguments in functions.items():
                with self.subTest(name):
                    function = getattr(module, name)
                    self.assertEqual(function.__module__, module.__name__)
                    self.assertEqual(list(inspect.signature(function).parameters), arguments)

    def test_all_functions_with_errors_are_in_the_table(self):
        named = {name for functions in INTERFACE.values() for name in functions}
        tested = {function.__name__ for function, _ in FUNCTIONS}
        self.assertEqual(named - tested, {"is_disc", "is_slotted"})


class ConventionTest(unittest.TestCase):
    def test_by_name_as_by_position(self):
        names = dict((function, names) for function, names in FUNCTIONS)
        for function, arguments in right_calls():
            with self.subTest(function.__name__, arguments=arguments):
                named = dict(reversed(list(zip(names[function], arguments))))
                self.assertEqual(function(**named), function(*arguments))
        self.assertIs(discs.is_disc(value=[1]), True)
        self.assertIs(discs.is_slotted(value=[2]), False)

    def test_arguments_stay_as_they_are(self):
        for function, arguments in right_calls():
            with self.subTest(function.__name__, arguments=arguments):
                before = copy.deepcopy(arguments)
                function(*arguments)
                self.assertEqual(arguments, before)

    def test_judged_values_stay_as_they_are(self):
        for value in ([1, 0, 1], [1, "x"], [], (1, 2), {1: 2}):
            before = copy.deepcopy(value)
            discs.is_disc(value)
            discs.is_slotted(value)
            self.assertEqual(value, before)

    def test_returned_lists_are_new(self):
        for function, arguments in right_calls():
            with self.subTest(function.__name__, arguments=arguments):
                found = function(*arguments)
                if not isinstance(found, list):
                    continue
                kept = list(found)
                self.assertFalse(any(found is value for value in arguments))
                found[0] = "changed"
                found.append("more")
                self.assertEqual(function(*arguments), kept)
                self.assertNotIn("changed", arguments[0])

    def test_lists_are_new_where_nothing_changes(self):
        for disc in ([7], [0, 0, 0], [0, 0, 1]):
            for function in (discs.least_disc, discs.like_form):
                self.assertEqual(function(disc), disc)
                self.assertIsNot(function(disc), disc)
            self.assertIsNot(discs.turned_disc(disc, 0), disc)
            self.assertIsNot(discs.turned_disc(disc, len(disc)), disc)
        self.assertIsNot(discs.mirrored_disc([0, 0]), discs.mirrored_disc([0, 0]))
        disc = [5]
        self.assertIsNot(discs.mirrored_disc(disc), disc)

    def test_later_changes_of_an_argument_do_not_matter(self):
        disc, other = [1, 1, 0, 1], [1, 2, 3, 4]
        first = lights.all_lights(disc, other)
        turned = discs.turned_disc(disc, 0)
        disc[0] = 9
        other[1] = 9
        self.assertEqual(turned, [1, 1, 0, 1])
        self.assertEqual(first, [7, 8, 9, 6])
        self.assertEqual(lights.all_lights([1, 1, 0, 1], [1, 2, 3, 4]), first)

    def test_one_list_for_both_discs(self):
        disc = [1, 1, 0, 1, 0, 0, 0]
        self.assertEqual(lights.all_lights(disc, disc), [3, 1, 1, 1, 1, 1, 1])
        self.assertEqual(discs.turn_between(disc, disc), 0)
        self.assertIs(discs.are_like(disc, disc), True)

    def test_kinds_of_answers(self):
        disc, other = [5, 0, 2, 0], [0, 5, 0, 2]
        for value in (discs.is_disc(disc), discs.is_slotted(disc), discs.are_like(disc, other)):
            self.assertIs(type(value), bool)
        numbers = [
            discs.disc_period(disc), discs.turn_between(disc, other), lights.light_at(disc, other, 1),
            lights.light_sum(disc, other, 0, 1, 0), lights.first_bright(disc, other, 0, 1, 0),
        ]
        for value in numbers:
            self.assertIs(type(value), int)
