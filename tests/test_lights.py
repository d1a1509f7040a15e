"""[6], [11]: lights."""

import unittest

from slitdiscs.lights import all_lights, brightest_turns, first_bright, light_at, light_sum, row_lights
from tests.samples import MOST, some_discs

DISC, OTHER = [1, 1, 0, 1, 0, 0, 0], [2, 0, 1, 0, 0, 0, 0]
HUGE = [10 ** 39, -10 ** 39, 10 ** 40 - 1, -10 ** 40 + 1, 10 ** 400]


def plain_light(disc, other, turn):
    """The light as [6] words it: the sum of disc[i] * other[i - t], counted around."""
    size = len(disc)
    return sum(disc[slot] * other[(slot - turn) % size] for slot in range(size))


def sample_pairs():
    found = [([0], [0]), ([MOST], [MOST]), ([MOST] * 40, [MOST] * 40), ([0] * 40, [7] * 40), ([1, 2] * 20, [3, 1] * 20)]
    for slots in (1, 2, 3, 4, 6, 7, 12, 40):
        for most in (1, 3, MOST):
            found += list(zip(some_discs(2, slots, most), some_discs(3, slots, most)[1:]))
    return found


class LightTest(unittest.TestCase):
    def test_as_defined(self):
        for disc, other in sample_pairs():
            size = len(disc)
            with self.subTest(disc=disc, other=other):
                lights = [plain_light(disc, other, turn) for turn in range(size)]
                self.assertEqual(all_lights(disc, other), lights)
                self.assertEqual(row_lights(disc, other), lights)
                for turn in [*range(-size, 2 * size + 1), *HUGE]:
                    self.assertEqual(light_at(disc, other, turn), lights[turn % size])

    def test_order_of_the_discs(self):
        self.assertEqual(all_lights([1, 2, 0], [1, 0, 0]), [1, 2, 0])
        self.assertEqual(all_lights([1, 0, 0], [1, 2, 0]), [1, 0, 2])

    def test_greatest(self):
        self.assertEqual(light_at([MOST] * 40, [MOST] * 40, -3), 40 * MOST * MOST)

    def test_rows(self):
        for disc, other in sample_pairs():
            row = [(-1) ** slot * item * 10 ** 45 for slot, item in enumerate(other)]
            lights = [plain_light(disc, row, turn) for turn in range(len(disc))]
            self.assertEqual(row_lights(disc, row), lights)
        self.assertEqual(row_lights([1, 0, 1, 0], [1, -2, -1, 2]), [0, 0, 0, 0])
        self.assertEqual(row_lights([3], [-10 ** 5000]), [-3 * 10 ** 5000])
        self.assertEqual(row_lights([0, 0], [-1, 5]), [0, 0])


class BrightestTest(unittest.TestCase):
    def test_as_defined(self):
        for disc, other in sample_pairs():
            with self.subTest(disc=disc, other=other):
                lights = [plain_light(disc, other, turn) for turn in range(len(disc))]
                turns = [turn for turn in range(len(disc)) if lights[turn] == max(lights)]
                self.assertEqual(brightest_turns(disc, other), turns)

    def test_all_alike(self):
        self.assertEqual(brightest_turns([0] * 40, [1] * 40), list(range(40)))
        self.assertEqual(brightest_turns([7], [0]), [0])
        self.assertEqual(brightest_turns([1, 2, 1, 2], [1, 1, 0, 0]), [0, 1, 2, 3])


class SumTest(unittest.TestCase):
    def test_as_defined(self):
        for disc, other in sample_pairs():
            size = len(disc)
            for first, step in [(0, 1), (1, -1), (2, 3), (-5, 2), (4, 0), (0, size), (3, size // 2), (-1, -size - 2)]:
                with self.subTest(disc=disc, other=other, first=first, step=step):
                    total = 0
                    for many in range(2 * size + 2):
                        self.assertEqual(light_sum(disc, other, first, step, many), total)
                        total += plain_light(disc, other, first + many * step)

    def test_many_digits(self):
        sum_of_round = sum(all_lights(DISC, OTHER))
        for first in HUGE:
            for step in HUGE:
                steps = [plain_light(DISC, OTHER, first + k * step) for k in range(5)]
                self.assertEqual(light_sum(DISC, OTHER, first, step, 5), sum(steps))
        for many in (10 ** 39, 10 ** 40 - 1, 10 ** 400):
            rounds, rest = divmod(many, 7)
            begun = sum(all_lights(DISC, OTHER)[:rest])
            self.assertEqual(light_sum(DISC, OTHER, 0, 1, many), rounds * sum_of_round + begun)
            self.assertEqual(light_sum(DISC, OTHER, 7 * many, 7 * many + 1, many), rounds * sum_of_round + begun)

    def test_edges(self):
        self.assertEqual(light_sum(DISC, OTHER, 3, 0, 10 ** 39), 2 * 10 ** 39)
        self.assertEqual(light_sum(DISC, OTHER, 1, 7, 10 ** 39), 3 * 10 ** 39)
        self.assertEqual(light_sum(DISC, OTHER, 1, -7 * 10 ** 38, 2), 6)
        self.assertEqual(light_sum(DISC, OTHER, 5, 3, 0), 0)
        self.assertEqual(light_sum(DISC, OTHER, 1, 3, 1), 3)
        self.assertEqual(light_sum([MOST], [MOST], 5, 3, 10 ** 39), 10 ** 99)
        self.assertEqual(light_sum([1, 0, 0, 0], [1, 0, 2, 0], 0, 2, 3), 1 + 2 + 1)


class FirstBrightTest(unittest.TestCase):
    def test_as_defined(self):
        for disc, other in sample_pairs():
            size = len(disc)
            for first, step in [(0, 1), (1, -1), (2, 3), (-5, 2), (4, 0), (0, size), (3, size // 2), (-1, -size - 2)]:
                lights = [plain_light(disc, other, first + k * step) for k in range(2 * size)]
                for light in {0, -1, *lights, *(value + 1 for value in lights)}:
                    reached = [k for k in range(2 * size) if lights[k] >= light]
                    with self.subTest(disc=disc, other=other, first=first, step=step, light=light):
                        wanted = reached[0] if reached else None
                        self.assertEqual(first_bright(disc, other, first, step, light), wanted)

    def test_many_digits(self):
        for first in HUGE:
            for step in HUGE:
                lights = [plain_light(DISC, OTHER, first + k * step) for k in range(7)]
                wanted = lights.index(max(lights))
                self.assertEqual(first_bright(DISC, OTHER, first, step, max(lights)), wanted)
                self.assertIsNone(first_bright(DISC, OTHER, first, step, max(lights) + 1))

    def test_never_reached(self):
        self.assertIsNone(first_bright(DISC, OTHER, 0, 1, 4))
        self.assertIsNone(first_bright(DISC, OTHER, 0, 0, 3))
        self.assertIsNone(first_bright(DISC, OTHER, 0, 10 ** 39, 10 ** 39))
        self.assertIsNone(first_bright([0] * 40, [0] * 40, 0, 1, 1))
        self.assertIsNone(first_bright([1, 0, 0, 0], [0, 1, 0, 0], 0, 2, 1))

    def test_edges(self):
        self.assertEqual(first_bright(DISC, OTHER, 4, 1, -10 ** 39), 0)
        self.assertEqual(first_bright(DISC, OTHER, 4, 1, 0), 0)
        self.assertEqual(first_bright(DISC, OTHER, 1, 0, 3), 0)
        self.assertEqual(first_bright(DISC, OTHER, 2, 1, 3), 6)
        self.assertEqual(first_bright([1] + [0] * 39, [1] + [0] * 39, 1, 1, 1), 39)
