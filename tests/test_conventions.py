"""[2] and the interface: names, arguments, new lists, and arguments that stay as they are."""

import copy
import inspect
import unittest

from slitdiscs import discs, flat, hidden, laid, lights, reading, rings, seen, sums, texts, twins
from slitdiscs.console import Console
from slitdiscs.live import LiveDiscs
from tests.samples import FUNCTIONS, right_calls

INTERFACE = {
    discs: {
        "is_disc": ["value"], "is_slotted": ["value"], "turned_disc": ["disc", "turn"],
        "mirrored_disc": ["disc"], "disc_period": ["disc"], "turn_between": ["disc", "other"],
        "least_disc": ["disc"], "like_form": ["disc"], "are_like": ["disc", "other"],
    },
    lights: {
        "light_at": ["disc", "other", "turn"], "all_lights": ["disc", "other"],
        "row_lights": ["disc", "row"], "brightest_turns": ["disc", "other"],
        "light_sum": ["disc", "other", "first", "step", "many"],
        "first_bright": ["disc", "other", "first", "step", "light"],
    },
    hidden: {
        "is_telling": ["disc"], "blind_divisors": ["disc"], "hidden_rows": ["disc"], "hidden_count": ["disc"],
        "is_hidden": ["disc", "value"],
    },
    reading: {
        "reading_row": ["disc"], "read_row": ["disc", "lights"], "lights_fault": ["disc", "lights"],
        "first_row": ["disc", "lights"],
    },
    sums: {
        "is_sure": ["disc", "row"], "sure_rows": ["disc"], "read_sum": ["disc", "lights", "row"],
        "alike_lights": ["disc", "other"],
    },
    twins: {
        "own_lights": ["disc"], "are_twins": ["disc", "other"], "twin_discs": ["disc"], "disc_with": ["lights"],
        "twin_count": ["slots", "many"], "form_count": ["slots", "many"],
    },
    laid: {
        "laid_disc": ["disc", "other"], "shut_disc": ["disc"], "other_part": ["disc", "part"],
        "multiplied_disc": ["disc", "factor"],
    },
    flat: {"is_flat": ["disc"], "flat_discs": ["slots", "many"], "flat_turns": ["disc"]},
    seen: {
        "fits_count": ["disc", "looks"], "nth_fit": ["disc", "looks", "index"], "sure_slots": ["disc", "looks"],
        "clash_index": ["disc", "looks"], "telling_turns": ["disc", "looks"],
    },
    rings: {
        "ring_light": ["disc", "other", "tick"], "ring_sum": ["disc", "other", "first", "many"],
        "first_tick": ["disc", "other", "first", "light"], "dark_stretch": ["disc", "other"],
        "tick_of": ["disc", "other", "lights"], "unlike_ticks": ["disc", "other"],
    },
    texts: {
        "format_disc": ["disc"], "format_row": ["row"], "format_looks": ["looks"],
        "parse_disc": ["text"], "parse_row": ["text"], "parse_looks": ["text"],
    },
}
METHODS = {
    LiveDiscs: {
        "__init__": ["disc", "other"], "turn_by": ["turn"], "set_slot": ["slot", "light"], "mirror_other": [],
        "undo": [], "fork": [], "__len__": [], "__eq__": ["other"],
    },
    Console: {"__init__": [], "execute": ["command"]},
}
PROPERTIES = ["disc", "other", "turn", "light", "log"]
WITHOUT_ERRORS = {"is_disc", "is_slotted", "format_disc", "format_row", "format_looks"}

# Functions with lists in their answers, and calls of them that return some.
LISTS = [
    (hidden.blind_divisors, [[1, 1, 1, 1]]),
    (hidden.hidden_rows, [[1, 0, 1, 0]]),
    (hidden.hidden_rows, [[0, 0, 0]]),
    (hidden.hidden_rows, [[5]]),
    (hidden.hidden_rows, [[0]]),
    (reading.reading_row, [[1, 1, 0, 1, 0, 0, 0]]),
    (reading.reading_row, [[1]]),
    (reading.reading_row, [[1, 0, 0]]),
    (reading.read_row, [[1, 0, 0], [1, 0, 0]]),
    (reading.read_row, [[1], [1]]),
    (reading.lights_fault, [[1, 0, 1, 0], [5, 3, 4, 3]]),
    (reading.lights_fault, [[0], [1]]),
    (reading.lights_fault, [[1, 0, 1, 0], [1, 0, -1, 0]]),
    (reading.first_row, [[1, 0, 1, 0], [5, 3, 5, 3]]),
    (reading.first_row, [[1, 0, 0], [1, 0, 0]]),
    (reading.first_row, [[0, 0], [0, 0]]),
    (sums.sure_rows, [[1, 0, 1, 0]]),
    (sums.sure_rows, [[1]]),
    (sums.sure_rows, [[1, 1, 1]]),
    (twins.own_lights, [[1]]),
    (twins.own_lights, [[1, 0, 0]]),
    (twins.twin_discs, [[1, 1, 1, 0, 0, 1, 0, 0]]),
    (twins.twin_discs, [[0, 0, 1]]),
    (twins.disc_with, [[1]]),
    (twins.disc_with, [[0, 0]]),
    (twins.disc_with, [[2, 0, 2, 0]]),
    (laid.laid_disc, [[1, 0, 0], [1, 0, 0]]),
    (laid.laid_disc, [[1], [1]]),
    (laid.shut_disc, [[1, 0]]),
    (laid.other_part, [[1, 0], [1, 0]]),
    (laid.other_part, [[1], [1]]),
    (laid.multiplied_disc, [[5, 7, 9], 1]),
    (laid.multiplied_disc, [[5], 0]),
    (flat.flat_discs, [13, 4]),
    (flat.flat_discs, [1, 0]),
    (flat.flat_discs, [4, 2]),
    (flat.flat_turns, [[3]]),
    (flat.flat_turns, [[1, 1, 0, 0]]),
    (seen.nth_fit, [[1, 1, 0, 1], [(0, 2)], 5]),
    (seen.nth_fit, [[1], [], 0]),
    (seen.sure_slots, [[1, 1, 0, 1], [(0, 3)]]),
    (seen.sure_slots, [[1, 1, 0, 1], []]),
    (seen.telling_turns, [[1, 1, 0, 1], []]),
    (seen.telling_turns, [[1, 1, 0, 1], [(0, 2), (1, 3)]]),
    (seen.telling_turns, [[1, 0, 0, 0], []]),
    (texts.parse_disc, ["0 1 1 12"]),
    (texts.parse_row, ["2 -1 0"]),
    (texts.parse_looks, ["0=3 -5=1"]),
    (texts.parse_looks, [""]),
]


def lists_of(value):
    """Return all lists within a value, itself included."""
    found = [value] if isinstance(value, list) else []
    if isinstance(value, (list, tuple)):
        for item in value:
            found += lists_of(item)
    return found


class InterfaceTest(unittest.TestCase):
    def test_each_function_stands_in_its_file(self):
        for module, functions in INTERFACE.items():
            for name, arguments in functions.items():
                with self.subTest(name):
                    function = getattr(module, name)
                    self.assertEqual(function.__module__, module.__name__)
                    self.assertEqual(list(inspect.signature(function).parameters), arguments)

    def test_all_functions_with_errors_are_in_the_table(self):
        named = {name for functions in INTERFACE.values() for name in functions}
        tested = {function.__name__ for function, _ in FUNCTIONS}
        self.assertEqual(named - tested, WITHOUT_ERRORS)

    def test_each_method_stands_in_its_class(self):
        for made, methods in METHODS.items():
            for name, arguments in methods.items():
                with self.subTest(made.__name__, name=name):
                    method = vars(made)[name]
                    self.assertEqual(list(inspect.signature(method).parameters)[1:], arguments)
                    self.assertEqual(method.__module__, made.__module__)
        self.assertEqual([LiveDiscs.__module__, Console.__module__], ["slitdiscs.live", "slitdiscs.console"])
        for name in PROPERTIES:
            self.assertIsInstance(vars(LiveDiscs)[name], property)


class ConventionTest(unittest.TestCase):
    def test_by_name_as_by_position(self):
        names = dict((function, names) for function, names in FUNCTIONS)
        for function, arguments in right_calls():
            with self.subTest(function.__name__, arguments=arguments):
                named = dict(reversed(list(zip(names[function], arguments))))
                self.assertEqual(function(**named), function(*arguments))
        self.assertIs(discs.is_disc(value=[1]), True)
        self.assertIs(discs.is_slotted(value=[2]), False)
        self.assertIs(hidden.is_hidden(value=[1, 0, -1, 0], disc=[1, 0, 1, 0]), True)
        self.assertEqual(texts.format_disc(disc=[1, 0]), "1 0")
        self.assertEqual(texts.format_row(row=[-1, 0]), "-1 0")
        self.assertEqual(texts.format_looks(looks=[(-1, 0)]), "-1=0")
        live = LiveDiscs(other=[3, 1, 0], disc=[1, 0, 2])
        live.turn_by(turn=1)
        live.set_slot(light=5, slot=1)
        self.assertEqual([live.disc, live.other, live.turn], [[1, 0, 2], [3, 5, 0], 1])
        self.assertEqual(Console().execute(command="light"), "1")

    def test_arguments_stay_as_they_are(self):
        for function, arguments in right_calls():
            with self.subTest(function.__name__, arguments=arguments):
                before = copy.deepcopy(arguments)
                function(*arguments)
                self.assertEqual(arguments, before)

    def test_judged_values_stay_as_they_are(self):
        for value in ([1, 0, 1], [1, "x"], [], (1, 2), {1: 2}):
            before = copy.deepcopy(value)
            discs.is_disc(value)
            discs.is_slotted(value)
            hidden.is_hidden([1, 0, 1], value)
            self.assertEqual(value, before)
        disc, row, looks = [1, 0, 5], [-1, 0, 10 ** 50], [(-1, 5), (0, 0)]
        texts.format_disc(disc), texts.format_row(row), texts.format_looks(looks)
        self.assertEqual([disc, row, looks], [[1, 0, 5], [-1, 0, 10 ** 50], [(-1, 5), (0, 0)]])

    def test_returned_lists_are_new(self):
        for function, arguments in right_calls():
            with self.subTest(function.__name__, arguments=arguments):
                found = function(*arguments)
                if not isinstance(found, list):
                    continue
                kept, before = list(found), copy.deepcopy(arguments)
                self.assertFalse(any(found is value for value in arguments))
                found.insert(0, "changed")
                found.append("more")
                self.assertEqual(function(*arguments), kept)
                self.assertEqual(arguments, before)

    def test_all_lists_of_an_answer_are_new(self):
        for function, arguments in LISTS:
            with self.subTest(function.__name__, arguments=arguments):
                before = copy.deepcopy(arguments)
                found = function(*arguments)
                lists = lists_of(found)
                self.assertGreater(len(lists), 0)
                kept = copy.deepcopy(found)
                numbers = [id(value) for value in lists + lists_of(arguments)]
                self.assertEqual(len(numbers), len(set(numbers)))
                for value in lists:
                    value.insert(0, "changed")
                self.assertEqual(arguments, before)
                self.assertEqual(function(*arguments), kept)

    def test_lists_are_new_where_nothing_changes(self):
        for disc in ([7], [0, 0, 0], [0, 0, 1]):
            for function in (discs.least_disc, discs.like_form):
                self.assertEqual(function(disc), disc)
                self.assertIsNot(function(disc), disc)
            self.assertIsNot(discs.turned_disc(disc, 0), disc)
            self.assertIsNot(discs.turned_disc(disc, len(disc)), disc)
        self.assertIsNot(discs.mirrored_disc([0, 0]), discs.mirrored_disc([0, 0]))
        disc = [5]
        self.assertIsNot(discs.mirrored_disc(disc), disc)

    def test_later_changes_of_an_argument_do_not_matter(self):
        disc, other = [1, 1, 0, 1], [1, 2, 3, 4]
        first = lights.all_lights(disc, other)
        turned = discs.turned_disc(disc, 0)
        disc[0] = 9
        other[1] = 9
        self.assertEqual(turned, [1, 1, 0, 1])
        self.assertEqual(first, [7, 8, 9, 6])
        self.assertEqual(lights.all_lights([1, 1, 0, 1], [1, 2, 3, 4]), first)

    def test_one_list_for_both_discs(self):
        disc = [1, 1, 0, 1, 0, 0, 0]
        self.assertEqual(lights.all_lights(disc, disc), [3, 1, 1, 1, 1, 1, 1])
        self.assertEqual(discs.turn_between(disc, disc), 0)
        self.assertIs(discs.are_like(disc, disc), True)

    def test_kinds_of_answers(self):
        disc, other = [5, 0, 2, 0], [0, 5, 0, 2]
        truths = [
            discs.is_disc(disc), discs.is_slotted(disc), discs.are_like(disc, other), hidden.is_telling(disc),
            hidden.is_telling([0]), hidden.is_hidden(disc, disc), hidden.is_hidden(disc, None),
            hidden.is_hidden(disc, [0, 0, 0, 0]), sums.is_sure(disc, [-1, 0, 0, 0]), sums.is_sure([0], [1]),
            sums.alike_lights(disc, other), twins.are_twins(disc, other), flat.is_flat(disc), flat.is_flat([0]),
        ]
        for value in truths:
            self.assertIs(type(value), bool)
        numbers = [
            discs.disc_period(disc), discs.turn_between(disc, other), lights.light_at(disc, other, 1),
            lights.light_sum(disc, other, 0, 1, 0), lights.first_bright(disc, other, 0, 1, 0),
            hidden.hidden_count(disc), hidden.hidden_count([0]), twins.twin_count(4, 2), twins.form_count(4, 2),
            seen.fits_count(disc, []), seen.clash_index(disc, [(0, 1)]), *laid.laid_disc(disc, other),
            *laid.shut_disc([0, 1]), *laid.other_part(disc, [1, 0, 0, 0]), *laid.multiplied_disc(disc, 3),
            *flat.flat_turns(disc), *flat.flat_discs(3, 1)[0], *seen.nth_fit(disc, [], 3),
            *seen.telling_turns([1, 0], []), rings.ring_light(disc, [1], 2), rings.ring_sum(disc, [1], 0, 0),
            rings.first_tick(disc, [1], 1, 1), rings.dark_stretch(disc, [1]), rings.tick_of(disc, [1], [0]),
            rings.unlike_ticks(disc, [1]), *texts.parse_disc("0 1"), *texts.parse_row("-1"), *texts.parse_looks("0=1")[0],
        ]
        for value in numbers:
            self.assertIs(type(value), int)
        row, bottom = reading.reading_row(disc)
        top, under = sums.read_sum(disc, [1, 2, 3, 4], [1, 0, 0, 0])
        for value in [bottom, top, under, *row, *sums.sure_rows(disc)[0], *twins.own_lights(disc)]:
            self.assertIs(type(value), int)
        self.assertIs(type(texts.parse_looks("0=1")[0]), tuple)
        slots = seen.sure_slots(disc, [(0, 7), (1, 0)])
        self.assertEqual([type(item) for item in slots], [tuple] * 4)
        for slot, item in slots:
            self.assertIs(type(slot), int)
            self.assertIs(type(item), int)
        self.assertIs(type(reading.reading_row(disc)), tuple)
        self.assertIs(type(sums.read_sum(disc, [1, 2, 3, 4], [1, 0, 0, 0])), tuple)
