"""The examples of the document and of README.md, with the answers as they are printed there."""

import doctest
import pathlib
import unittest

DEFINITIONS = """
>>> from slitdiscs.discs import mirrored_disc, turned_disc
>>> from slitdiscs.lights import all_lights, light_at
>>> disc, other = [5, 0, 2, 0], [1, 3, 0, 0]
>>> turned_disc(other, 1), mirrored_disc(other), light_at(disc, other, 1), all_lights(disc, other)
([0, 1, 3, 0], [1, 0, 0, 3], 6, [5, 6, 2, 15])
>>> all_lights([1, 0, 1, 0], [7, 3, 2, 9]), all_lights([1, 0, 1, 0], [6, 5, 3, 7])
([9, 12, 9, 12], [9, 12, 9, 12])
"""

DISCS = """
>>> from slitdiscs.discs import are_like, disc_period, is_disc, is_slotted, least_disc, like_form, mirrored_disc, turn_between, turned_disc
>>> [is_disc(value) for value in ([0], [0, 10 ** 30], [0, 10 ** 30 + 1], [], [True], [-1], (0, 1))], [is_slotted(value) for value in ([0, 1], [0, 2], [])]
([True, True, False, False, False, False, False], [True, False, False])
>>> disc = [1, 1, 0, 1, 0, 0, 0]
>>> turned_disc(disc, 1), turned_disc(disc, 10 ** 30), mirrored_disc(disc)
([0, 1, 1, 0, 1, 0, 0], [0, 1, 1, 0, 1, 0, 0], [1, 0, 0, 0, 1, 0, 1])
>>> [disc_period(row) for row in (disc, [5, 7, 5, 7], [3, 3, 3], [9])], turn_between(disc, [1, 0, 0, 0, 1, 1, 0]), turn_between(disc, [1, 0, 0, 0, 1, 0, 1])
([7, 2, 1, 1], 4, None)
>>> least_disc(disc), like_form(disc), are_like(disc, [1, 0, 0, 0, 1, 0, 1]), are_like([1, 2, 0, 0], [1, 0, 2, 0])
([0, 0, 0, 1, 1, 0, 1], [0, 0, 0, 1, 0, 1, 1], True, False)
>>> turn_between([0, 1], [0, 1, 1])
raises InvalidDisc(index=None)
"""

LIGHTS = """
>>> from slitdiscs.lights import all_lights, brightest_turns, first_bright, light_at, light_sum, row_lights
>>> disc, other = [1, 1, 0, 1, 0, 0, 0], [2, 0, 1, 0, 0, 0, 0]
>>> all_lights(disc, other), row_lights(disc, [1, -1, 0, 0, 0, 0, 0]), [light_at(disc, other, turn) for turn in (0, -1, 10 ** 30)]
([2, 3, 0, 2, 0, 1, 1], [0, 1, -1, 1, 0, 0, -1], [2, 1, 3])
>>> brightest_turns(disc, other), brightest_turns([1, 0, 1, 0], [0, 5, 0, 5]), brightest_turns([0, 0], [7, 8])
([1], [1, 3], [0, 1])
>>> light_sum(disc, other, 0, 1, 7), light_sum(disc, other, 1, -1, 10 ** 30), light_sum(disc, other, 3, 0, 5), light_sum(disc, other, 0, 1, 0)
(9, 1285714285714285714285714285716, 10, 0)
>>> [first_bright(disc, other, 4, 2, light) for light in (0, 2, 3, 4)]
[0, 2, 2, None]
"""


def answer(source, names):
    """Return what is printed for a line: an answer, `raises ..`, or nothing for a statement."""
    try:
        try:
            code = compile(source, "example", "eval")
        except SyntaxError:
            exec(source, names)
            return None
        return repr(eval(code, names))
    except ValueError as error:
        fields = ", ".join(f"{name}={value!r}" for name, value in vars(error).items())
        return f"raises {type(error).__name__}" + (f"({fields})" if fields else "")


class ExampleTest(unittest.TestCase):
    def check(self, text):
        lines = text.strip().split("\n")
        names = {}
        for line, printed in zip(lines, lines[1:] + [">>> "]):
            if line.startswith(">>> "):
                wanted = None if printed.startswith(">>> ") else printed
                with self.subTest(line):
                    self.assertEqual(answer(line[4:], names), wanted)

    def test_definitions(self):
        self.check(DEFINITIONS)

    def test_discs(self):
        self.check(DISCS)

    def test_lights(self):
        self.check(LIGHTS)

    def test_readme(self):
        readme = pathlib.Path(__file__).resolve().parent.parent / "README.md"
        found = doctest.testfile(str(readme), module_relative=False)
        self.assertGreater(found.attempted, 0)
        self.assertEqual(found.failed, 0)
