"""The examples of the document and of README.md, with the answers as they are printed there."""

import doctest
import pathlib
import unittest

DEFINITIONS = """
>>> from slitdiscs.discs import mirrored_disc, turned_disc
>>> from slitdiscs.lights import all_lights, light_at
>>> disc, other = [5, 0, 2, 0], [1, 3, 0, 0]
>>> turned_disc(other, 1), mirrored_disc(other), light_at(disc, other, 1), all_lights(disc, other)
([0, 1, 3, 0], [1, 0, 0, 3], 6, [5, 6, 2, 15])
>>> all_lights([1, 0, 1, 0], [7, 3, 2, 9]), all_lights([1, 0, 1, 0], [6, 5, 3, 7])
([9, 12, 9, 12], [9, 12, 9, 12])
"""

DISCS = """
>>> from slitdiscs.discs import are_like, disc_period, is_disc, is_slotted, least_disc, like_form, mirrored_disc, turn_between, turned_disc
>>> [is_disc(value) for value in ([0], [0, 10 ** 30], [0, 10 ** 30 + 1], [], [True], [-1], (0, 1))], [is_slotted(value) for value in ([0, 1], [0, 2], [])]
([True, True, False, False, False, False, False], [True, False, False])
>>> disc = [1, 1, 0, 1, 0, 0, 0]
>>> turned_disc(disc, 1), turned_disc(disc, 10 ** 30), mirrored_disc(disc)
([0, 1, 1, 0, 1, 0, 0], [0, 1, 1, 0, 1, 0, 0], [1, 0, 0, 0, 1, 0, 1])
>>> [disc_period(row) for row in (disc, [5, 7, 5, 7], [3, 3, 3], [9])], turn_between(disc, [1, 0, 0, 0, 1, 1, 0]), turn_between(disc, [1, 0, 0, 0, 1, 0, 1])
([7, 2, 1, 1], 4, None)
>>> least_disc(disc), like_form(disc), are_like(disc, [1, 0, 0, 0, 1, 0, 1]), are_like([1, 2, 0, 0], [1, 0, 2, 0])
([0, 0, 0, 1, 1, 0, 1], [0, 0, 0, 1, 0, 1, 1], True, False)
>>> turn_between([0, 1], [0, 1, 1])
raises InvalidDisc(index=None)
"""

LIGHTS = """
>>> from slitdiscs.lights import all_lights, brightest_turns, first_bright, light_at, light_sum, row_lights
>>> disc, other = [1, 1, 0, 1, 0, 0, 0], [2, 0, 1, 0, 0, 0, 0]
>>> all_lights(disc, other), row_lights(disc, [1, -1, 0, 0, 0, 0, 0]), [light_at(disc, other, turn) for turn in (0, -1, 10 ** 30)]
([2, 3, 0, 2, 0, 1, 1], [0, 1, -1, 1, 0, 0, -1], [2, 1, 3])
>>> brightest_turns(disc, other), brightest_turns([1, 0, 1, 0], [0, 5, 0, 5]), brightest_turns([0, 0], [7, 8])
([1], [1, 3], [0, 1])
>>> light_sum(disc, other, 0, 1, 7), light_sum(disc, other, 1, -1, 10 ** 30), light_sum(disc, other, 3, 0, 5), light_sum(disc, other, 0, 1, 0)
(9, 1285714285714285714285714285716, 10, 0)
>>> [first_bright(disc, other, 4, 2, light) for light in (0, 2, 3, 4)]
[0, 2, 2, None]
"""

HIDDEN = """
>>> from slitdiscs.hidden import blind_divisors, hidden_count, hidden_rows, is_hidden, is_telling
>>> discs = [[1, 1, 0, 1, 0, 0, 0], [1, 0, 1, 0], [1, 1, 0, 0], [1, 1, 1, 1], [0, 0, 0]]
>>> [is_telling(disc) for disc in discs], [blind_divisors(disc) for disc in discs], [hidden_count(disc) for disc in discs]
([True, False, False, False, False], [[], [4], [2], [2, 4], [1, 3]], [0, 2, 1, 3, 3])
>>> [hidden_rows(disc) for disc in discs[1:4]]
[[[1, 0, -1, 0], [0, 1, 0, -1]], [[1, -1, 1, -1]], [[1, 0, 0, -1], [0, 1, 0, -1], [0, 0, 1, -1]]]
>>> hidden_rows([1, 1, 1, 0, 0, 0]), hidden_rows([10 ** 30, 0, 10 ** 30])
([[1, 0, -1, 1, 0, -1], [0, 1, -1, 0, 1, -1]], [])
>>> [is_hidden([1, 0, 1, 0], value) for value in ([1, -2, -1, 2], [0, 0, 0, 0], [1, 0, 1, 0], [1, 0, -1], (1, 0, -1, 0), None)]
[True, True, False, False, False, False]
"""

READING = """
>>> from slitdiscs.reading import read_row, reading_row
>>> disc = [1, 1, 0, 1, 0, 0, 0]
>>> reading_row(disc), reading_row([2, 1]), reading_row([10 ** 30])
(([2, 2, -1, 2, -1, -1, -1], 6), ([2, -1], 3), ([1], 1000000000000000000000000000000))
>>> read_row(disc, [1, 1, 0, 1, 0, 0, 0]), read_row(disc, [1, 0, 0, 0, 0, 0, 0]), read_row([2, 1], [4, 5])
([1, 0, 0, 0, 0, 0, 0], None, [1, 2])
>>> reading_row([1, 0, 1, 0])
raises Impossible
"""

FAULTS = """
>>> from slitdiscs.reading import first_row, lights_fault
>>> disc = [1, 0, 1, 0]
>>> first_row(disc, [5, 3, 5, 3]), first_row(disc, [5, 3, 4, 3]), first_row([2, 0], [1, 0]), first_row([1, 1, 0, 0], [4, 7, 6, 3])
([0, 0, 5, 3], None, None, [0, 4, -1, 7])
>>> lights_fault(disc, [5, 3, 5, 3]), lights_fault([2, 0], [1, 0]), lights_fault(disc, [5, 3, 4, 3]) is None
(None, None, False)
"""

SUMS = """
>>> from slitdiscs.sums import alike_lights, is_sure, read_sum, sure_rows
>>> disc = [1, 0, 1, 0]
>>> [is_sure(disc, row) for row in ([1, 0, 1, 0], [1, 0, 0, 0], [2, -1, 2, -1], [0, 0, 0, 0])], sure_rows(disc), sure_rows([1, 1, 1, 1]), sure_rows([0, 0, 0])
([True, False, True, True], [[1, 0, 1, 0], [0, 1, 0, 1]], [[1, 1, 1, 1]], [])
>>> read_sum(disc, [5, 3, 5, 3], [2, -1, 2, -1]), read_sum([2, 0], [1, 0], [1, 0]), read_sum([1, 1, 0, 1, 0, 0, 0], [1, 0, 0, 0, 0, 0, 0], [1] * 7)
((7, 1), (1, 2), (1, 3))
>>> alike_lights(disc, [3, 1, 3, 1]), alike_lights(disc, [1, 1, 0, 0])
(True, False)
>>> read_sum(disc, [5, 3, 5, 3], [1, 0, 0, 0])
raises Impossible
"""

TWINS = """
>>> from slitdiscs.twins import are_twins, disc_with, own_lights, twin_discs
>>> own_lights([1, 1, 0, 1, 0, 0, 0]), own_lights([1, 0, 1, 0]), own_lights([2, 5])
([3, 1, 1, 1, 1, 1, 1], [2, 0, 2, 0], [29, 20])
>>> first, second = [1, 1, 0, 1, 1, 0, 0, 0], [1, 1, 1, 0, 0, 1, 0, 0]
>>> own_lights(first), are_twins(first, second), are_twins(first, first), are_twins(first, [1, 1, 0, 0, 0, 1, 1, 0])
([4, 2, 1, 2, 2, 2, 1, 2], True, False, False)
>>> twin_discs(first), twin_discs([1, 1, 0, 1, 0, 0, 0])
([[0, 0, 0, 1, 1, 0, 1, 1], [0, 0, 1, 0, 0, 1, 1, 1]], [[0, 0, 0, 1, 0, 1, 1]])
>>> [disc_with(lights) for lights in ([4, 2, 1, 2, 2, 2, 1, 2], [3, 1, 1, 1, 1, 1, 1], [2, 0, 1, 0], [0, 0])]
[[0, 0, 0, 1, 1, 0, 1, 1], [0, 0, 0, 1, 0, 1, 1], None, [0, 0]]
>>> twin_discs([1, 0, 2])
raises InvalidDisc(index=2)
"""

COUNTS = """
>>> from slitdiscs.twins import form_count, twin_count
>>> [twin_count(8, 4), form_count(8, 4)], [twin_count(7, 3), form_count(7, 3)], [twin_count(5, 0), form_count(1, 1)]
([7, 8], [4, 4], [1, 1])
>>> twin_count(15, 2)
raises InvalidNumber
"""

LAID = """
>>> from slitdiscs.laid import laid_disc, multiplied_disc, other_part, shut_disc
>>> laid_disc([1, 2, 0], [1, 0, 3]), shut_disc([1, 1, 0, 1])
([7, 2, 3], [0, 0, 1, 0])
>>> other_part([7, 2, 3], [1, 2, 0]), other_part([2, 0, 0], [1, 1, 0]), other_part([1, 0, 0], [1, 2, 0])
([1, 0, 3], [1, -1, 1], None)
>>> multiplied_disc([1, 1, 0, 1, 0, 0, 0], 3), multiplied_disc([5, 7, 9], -1), multiplied_disc([4], 10 ** 30)
([1, 0, 1, 1, 0, 0, 0], [5, 9, 7], [4])
>>> other_part([1, 0, 0, 0], [1, 0, 1, 0])
raises Impossible

>>> from slitdiscs.laid import multiplied_disc
>>> multiplied_disc([1, 0, 0, 0], 6)
raises InvalidNumber
"""

FLAT = """
>>> from slitdiscs.flat import flat_discs, flat_turns, is_flat
>>> [is_flat(disc) for disc in ([1, 1, 0, 1, 0, 0, 0], [1, 1, 0, 0], [1, 1, 1], [0, 7, 0], [2, 5])]
[True, False, True, True, True]
>>> flat_discs(7, 3), flat_discs(7, 4), flat_discs(4, 2), flat_discs(4, 1)
([[0, 0, 0, 1, 0, 1, 1]], [[0, 0, 1, 0, 1, 1, 1]], [], [[0, 0, 0, 1]])
>>> flat_turns([1, 1, 0, 1, 0, 0, 0]), flat_turns([1, 1, 0, 0]), flat_turns([5, 7, 9]), flat_turns([3])
([1, 2, 4], [1, 3], [1], [1])
"""

SEEN = """
>>> from slitdiscs.seen import clash_index, fits_count, nth_fit, sure_slots
>>> disc = [1, 1, 0, 1]
>>> [fits_count(disc, looks) for looks in ([], [(0, 2)], [(0, 2), (5, 3)], [(0, 3), (1, 0)])]
[16, 6, 1, 0]
>>> [nth_fit(disc, [(0, 2)], index) for index in (0, 1, 5)], nth_fit(disc, [(0, 2), (1, 3)], 0)
([[0, 1, 0, 1], [0, 1, 1, 1], [1, 1, 1, 0]], [1, 0, 1, 1])
>>> [sure_slots(disc, looks) for looks in ([(0, 3)], [(0, 2)], [(0, 2), (1, 3)])]
[[(0, 1), (1, 1), (3, 1)], [], [(0, 1), (1, 0), (2, 1), (3, 1)]]
>>> [clash_index(disc, looks) for looks in ([(0, 2)], [(0, 3), (1, 0)], [(0, 4)])]
[None, 1, 0]
>>> sure_slots(disc, [(0, 4)])
raises Impossible
"""

TELLING = """
>>> from slitdiscs.seen import telling_turns
>>> [telling_turns([1, 1, 0, 1], looks) for looks in ([], [(0, 3)], [(0, 2), (1, 3)])], telling_turns([1, 0, 1, 0], [])
([[0, 1, 2], [1], []], None)
>>> telling_turns([1, 1, 0, 1], [(0, 4)])
raises Impossible
"""

RINGS = """
>>> from slitdiscs.rings import dark_stretch, first_tick, ring_light, ring_sum, tick_of, unlike_ticks
>>> disc, other = [1, 0, 2], [1, 1, 0, 0]
>>> [ring_light(disc, other, tick) for tick in range(12)], ring_light(disc, other, 12 * 10 ** 30 + 5)
([1, 0, 0, 0, 0, 2, 0, 0, 2, 1, 0, 0], 2)
>>> ring_sum(disc, other, 0, 12), ring_sum(disc, other, 5, 10 ** 30), [first_tick(disc, other, first, 2) for first in (0, 6, 9)], first_tick(disc, other, 0, 3)
(6, 500000000000000000000000000002, [5, 8, 17], None)
>>> dark_stretch(disc, other), dark_stretch([1], [1, 2]), dark_stretch([1, 0], [0, 1])
(4, 0, None)
>>> [tick_of(disc, other, lights) for lights in ([2], [2, 1], [0, 0, 2], [0, 0, 0, 0], [2, 2])], unlike_ticks(disc, other)
([5, 8, 3, 1, None], 4)
>>> unlike_ticks([1, 0], [0, 1]), unlike_ticks([5], [7]), unlike_ticks([1, 2], [1, 1, 1])
(None, 1, None)
"""

LIVE = """
>>> from slitdiscs.live import LiveDiscs
>>> live = LiveDiscs([1, 1, 0, 1, 0, 0, 0], [1, 0, 0, 0, 0, 0, 0])
>>> [live.disc, live.other, live.turn, live.light, live.log, len(live)]
[[1, 1, 0, 1, 0, 0, 0], [1, 0, 0, 0, 0, 0, 0], 0, 1, [], 0]
>>> [live.turn_by(2), live.light, live.turn_by(-13), live.turn, live.light]
[None, 0, None, 3, 1]
>>> [live.set_slot(4, 5), live.other, live.light]
[None, [1, 0, 0, 0, 5, 0, 0], 6]
>>> [live.mirror_other(), live.other, live.light, live.undo(), live.other, len(live)]
[None, [1, 0, 0, 5, 0, 0, 0], 1, None, [1, 0, 0, 0, 5, 0, 0], 3]
>>> two = live.fork()
>>> [two == live, two.turn_by(4), two.turn, live.turn, two == live]
[True, None, 0, 3, False]
>>> live.log
[('turn', 2), ('turn', -13), ('slot', 4, 5)]
>>> live.set_slot(7, 1)
raises InvalidSlot

>>> from slitdiscs.live import LiveDiscs
>>> LiveDiscs([1, 0], [1])
raises InvalidDisc(index=None)

>>> from slitdiscs.live import LiveDiscs
>>> LiveDiscs([1], [0]).undo()
raises NothingToUndo
"""

FORMATS = """
>>> from slitdiscs.texts import format_disc, format_looks, format_row
>>> format_disc([0, 1, 1, 12]), format_row([2, -1, 0]), format_looks([(0, 3), (-5, 1)]), format_looks([])
('0 1 1 12', '2 -1 0', '0=3 -5=1', '')
"""

PARSES = """
>>> from slitdiscs.texts import parse_disc, parse_looks, parse_row
>>> parse_disc("0 1 1 12"), parse_row("2 -1 0"), parse_looks("0=3 -5=1"), parse_looks("")
([0, 1, 1, 12], [2, -1, 0], [(0, 3), (-5, 1)], [])
>>> parse_disc("1 -1")
raises InvalidSyntax(word=1)
>>> parse_looks("0=3 5=-1")
raises InvalidSyntax(word=1)
>>> parse_row("")
raises InvalidSyntax(word=0)
"""

CONSOLE = """
>>> from slitdiscs.console import Console
>>> console = Console()
>>> [console.execute(command) for command in ["light", "disc 1 1 0 1 0 0 0", "light", "own", "reading", "blind"]]
['1', 'ok', '3', '3 1 1 1 1 1 1', '2 2 -1 2 -1 -1 -1 / 6', 'none']
>>> [console.execute(command) for command in ["other 1 0 0 0 0 0 0", "turn 3", "light", "slot 4 5", "light", "lights", "bright"]]
['ok', 'ok', '1', 'ok', '6', '1 1 0 6 5 0 5', '3']
>>> [console.execute(command) for command in ["mirror", "light", "undo", "undo", "light", "hidden"]]
['ok', '1', 'ok', 'ok', '1', '0']
>>> [console.execute(command) for command in ["disc 1 0 1 0", "blind", "hidden", "reading", "own"]]
['ok', '4', '2', 'none', '2 0 2 0']

>>> from slitdiscs.console import Console
>>> Console().execute("slot 1 1")
raises InvalidSlot

>>> from slitdiscs.console import Console
>>> Console().execute("turn x")
raises InvalidCommand
"""


def answer(source, names):
    """Return what is printed for a line: an answer, `raises ..`, or nothing for a statement."""
    try:
        try:
            code = compile(source, "example", "eval")
        except SyntaxError:
            exec(source, names)
            return None
        return repr(eval(code, names))
    except ValueError as error:
        fields = ", ".join(f"{name}={value!r}" for name, value in vars(error).items())
        return f"raises {type(error).__name__}" + (f"({fields})" if fields else "")


class ExampleTest(unittest.TestCase):
    def check(self, text):
        lines = text.strip().split("\n")
        names = {}
        for line, printed in zip(lines, lines[1:] + [">>> "]):
            if line.startswith(">>> "):
                wanted = None if printed.startswith(">>> ") else printed
                with self.subTest(line):
                    self.assertEqual(answer(line[4:], names), wanted)

    def test_definitions(self):
        self.check(DEFINITIONS)

    def test_discs(self):
        self.check(DISCS)

    def test_lights(self):
        self.check(LIGHTS)

    def test_hidden(self):
        self.check(HIDDEN)

    def test_reading(self):
        self.check(READING)

    def test_faults(self):
        self.check(FAULTS)

    def test_sums(self):
        self.check(SUMS)

    def test_twins(self):
        self.check(TWINS)

    def test_counts(self):
        self.check(COUNTS)

    def test_laid(self):
        self.check(LAID)

    def test_flat(self):
        self.check(FLAT)

    def test_seen(self):
        self.check(SEEN)

    def test_telling(self):
        self.check(TELLING)

    def test_rings(self):
        self.check(RINGS)

    def test_live(self):
        self.check(LIVE)

    def test_formats(self):
        self.check(FORMATS)

    def test_parses(self):
        self.check(PARSES)

    def test_console(self):
        self.check(CONSOLE)

    def test_readme(self):
        readme = pathlib.Path(__file__).resolve().parent.parent / "README.md"
        found = doctest.testfile(str(readme), module_relative=False)
        self.assertGreater(found.attempted, 0)
        self.assertEqual(found.failed, 0)
