"""[22]: two rings that go on by one slot each tick."""

import functools
import itertools
import unittest
from math import lcm

from slitdiscs.rings import dark_stretch, first_tick, ring_light, ring_sum, tick_of, unlike_ticks
from tests.plain import all_slotted
from tests.samples import MOST, some_discs

GREAT = 10 ** 39


def walk(disc, other, ticks):
    """The lights at so many ticks, going on by one slot at each of them."""
    at, over, found = 0, 0, []
    for _ in range(ticks):
        found.append(disc[at] * other[over])
        at = at + 1 if at + 1 < len(disc) else 0
        over = over + 1 if over + 1 < len(other) else 0
    return found


@functools.lru_cache(None)
def pairs():
    """Pairs of discs of equal and of unlike numbers of slots."""
    found = []
    for one, two in itertools.product(range(1, 5), repeat=2):
        found += itertools.product(all_slotted(one)[::3] + all_slotted(one)[-1:], all_slotted(two)[::2])
    for one, two in ((5, 3), (6, 4), (7, 7), (9, 6), (1, 12), (10, 4)):
        for most in (1, 4, MOST):
            found.append((some_discs(1, one, most)[0], some_discs(2, two, most)[1]))
    return found + [([1, 0, 2], [1, 1, 0, 0]), ([5], [7]), ([1, 2], [1, 1, 1]), ([0, 1, 0], [1, 1, 0, 1, 1, 0])]


def long_pairs():
    """Pairs of discs with long rounds."""
    single = [1] + [0] * 38, [1] + [0] * 39
    found = [single, ([0] * 39, [0] * 40), ([MOST] * 39, [MOST] * 40), (list(range(39)), list(range(40)))]
    found += [([1] + [0] * 39, [0] * 38 + [1]), ([0, 1] * 20, [1] * 39), ([3] * 40, [7]), ([1, 0] * 20, [0, 1] * 20)]
    for one, two in ((39, 40), (40, 39), (40, 40), (37, 36), (40, 30), (1, 40)):
        found += [(some_discs(1, one, most)[0], some_discs(2, two, most)[1]) for most in (1, MOST)]
    return found


def round_of(disc, other):
    return lcm(len(disc), len(other))


class RingLightTest(unittest.TestCase):
    def test_tick_by_tick(self):
        for disc, other in pairs() + long_pairs():
            ticks = 2 * round_of(disc, other) + 3
            with self.subTest(disc=disc, other=other):
                self.assertEqual([ring_light(disc, other, tick) for tick in range(ticks)], walk(disc, other, ticks))

    def test_great_ticks(self):
        for disc, other in pairs()[::7] + long_pairs():
            size = round_of(disc, other)
            for tick in (GREAT, GREAT + 1, size * GREAT, size * GREAT + size - 1):
                with self.subTest(disc=disc, other=other, tick=tick):
                    self.assertEqual(ring_light(disc, other, tick), walk(disc, other, tick % size + 1)[-1])

    def test_edges(self):
        self.assertEqual(ring_light([MOST], [MOST], GREAT), MOST * MOST)
        self.assertEqual(ring_light([0], [MOST], 0), 0)
        # A tick of a common round, not of each ring alone.
        self.assertEqual([ring_light([0, 1], [0, 0, 1], tick) for tick in range(7)], [0, 0, 0, 0, 0, 1, 0])


class RingSumTest(unittest.TestCase):
    def test_tick_by_tick(self):
        for disc, other in pairs()[::3] + long_pairs():
            size = round_of(disc, other)
            whole = walk(disc, other, 4 * size + 10)
            for first in (0, 1, size - 1, size, size + 3):
                for many in (0, 1, 2, size - 1, size, size + 1, 2 * size + 5):
                    with self.subTest(disc=disc, other=other, first=first, many=many):
                        self.assertEqual(ring_sum(disc, other, first, many), sum(whole[first:first + many]))

    def test_great_numbers(self):
        for disc, other in pairs()[::5] + long_pairs():
            size = round_of(disc, other)
            whole = walk(disc, other, 3 * size)
            for first, rounds, rest in ((size * GREAT, GREAT, 0), (size * GREAT + 1, GREAT, 1), (size - 1, 0, size - 1)):
                wanted = rounds * sum(whole[:size]) + sum(whole[first % size:first % size + rest])
                with self.subTest(disc=disc, other=other, first=first):
                    self.assertEqual(ring_sum(disc, other, first, rounds * size + rest), wanted)

    def test_edges(self):
        self.assertEqual(ring_sum([MOST], [MOST], GREAT, GREAT), GREAT * MOST * MOST)
        self.assertEqual(ring_sum([MOST], [MOST], GREAT, 0), 0)
        self.assertEqual(ring_sum([1, 0], [0, 1], 5, GREAT), 0)


class FirstTickTest(unittest.TestCase):
    def plain_tick(self, whole, first, size, light):
        for tick in range(first, first + size):
            if whole[tick] >= light:
                return tick
        return None

    def test_tick_by_tick(self):
        for disc, other in pairs()[::3] + long_pairs()[::2]:
            size = round_of(disc, other)
            whole = walk(disc, other, 3 * size)
            for first in (0, 1, size - 1, size, size + 1):
                for light in (0, -1, 1, 2, max(whole), max(whole) + 1, min(whole), -GREAT, GREAT ** 2):
                    with self.subTest(disc=disc, other=other, first=first, light=light):
                        wanted = self.plain_tick(whole, first, size, light)
                        self.assertEqual(first_tick(disc, other, first, light), wanted)
                        later = None if wanted is None else wanted + size * GREAT
                        self.assertEqual(first_tick(disc, other, first + size * GREAT, light), later)

    def test_edges(self):
        self.assertEqual(first_tick([1] + [0] * 38, [1] + [0] * 39, 1, 1), 1560)
        self.assertEqual(first_tick([1] + [0] * 38, [1] + [0] * 39, 1560, 1), 1560)
        self.assertEqual(first_tick([1] + [0] * 38, [1] + [0] * 39, 1561, 1), 3120)
        self.assertEqual(first_tick([0], [0], GREAT, 0), GREAT)
        self.assertIsNone(first_tick([0], [0], GREAT, 1))
        self.assertEqual(first_tick([MOST], [MOST], 7, MOST * MOST), 7)


class DarkStretchTest(unittest.TestCase):
    def plain_stretch(self, disc, other):
        size = round_of(disc, other)
        words = "".join("x" if light else "-" for light in walk(disc, other, 3 * size))
        return max(map(len, words.split("x"))) if "x" in words else None

    def test_tick_by_tick(self):
        for disc, other in pairs() + long_pairs():
            with self.subTest(disc=disc, other=other):
                self.assertEqual(dark_stretch(disc, other), self.plain_stretch(disc, other))

    def test_edges(self):
        self.assertEqual(dark_stretch([1], [1]), 0)
        self.assertIsNone(dark_stretch([0], [1]))
        self.assertIsNone(dark_stretch([MOST] * 40, [0] * 39))
        self.assertIsNone(dark_stretch([1, 0] * 20, [0, 1] * 20))
        self.assertEqual(dark_stretch([MOST] * 40, [MOST] * 39), 0)
        self.assertEqual(dark_stretch([1] + [0] * 38, [1] + [0] * 39), 1559)
        # It goes on behind the end of a round.
        self.assertEqual(dark_stretch([0, 0, 1, 0], [1]), 3)
        self.assertEqual(dark_stretch([0, 1, 1, 0, 1, 0], [1]), 2)


class TickOfTest(unittest.TestCase):
    def plain_tick(self, disc, other, lights):
        size = round_of(disc, other)
        whole = walk(disc, other, size + len(lights))
        ticks = [tick for tick in range(size) if whole[tick:tick + len(lights)] == lights]
        return ticks[0] if ticks else None

    def test_tick_by_tick(self):
        for disc, other in pairs()[::2]:
            size = round_of(disc, other)
            whole = walk(disc, other, 4 * size)
            found = [whole[tick:tick + many] for tick in (0, 1, size - 1) for many in (1, 2, size, 2 * size + 1)]
            found += [list(items) for items in itertools.product((-1, 0, 1), repeat=3)] + [whole[:size] + [whole[1] + 1]]
            for lights in found:
                with self.subTest(disc=disc, other=other, lights=lights):
                    self.assertEqual(tick_of(disc, other, lights), self.plain_tick(disc, other, lights))

    def test_long_lists(self):
        for disc, other in long_pairs():
            size = round_of(disc, other)
            whole = walk(disc, other, 2 * size + 1600)
            for tick in (0, 1, size // 2, size - 1):
                for many in (1, size, 1600):
                    lights = whole[tick:tick + min(many, 1600)]
                    with self.subTest(disc=disc, other=other, tick=tick, many=many):
                        self.assertEqual(tick_of(disc, other, lights), self.plain_tick(disc, other, lights))
                        wrong = lights[:-1] + [lights[-1] + 1]
                        self.assertEqual(tick_of(disc, other, wrong), self.plain_tick(disc, other, wrong))

    def test_edges(self):
        self.assertEqual(tick_of([0], [0], [0] * 1600), 0)
        self.assertIsNone(tick_of([0], [0], [0] * 1599 + [1]))
        self.assertIsNone(tick_of([0], [0], [-1]))
        self.assertEqual(tick_of([MOST], [MOST], [MOST * MOST]), 0)
        self.assertIsNone(tick_of([MOST], [MOST], [MOST * MOST + 1]))
        single = [1] + [0] * 38, [1] + [0] * 39
        self.assertEqual(tick_of(*single, [0] * 1559 + [1] + [0] * 40), 1)
        self.assertEqual(tick_of(*single, [0, 1]), 1559)
        self.assertIsNone(tick_of(*single, [0] * 1560))


class UnlikeTicksTest(unittest.TestCase):
    def is_unlike(self, disc, other, length):
        size = round_of(disc, other)
        whole = walk(disc, other, size + length)
        return len({tuple(whole[tick:tick + length]) for tick in range(size)}) == size

    def check(self, disc, other):
        length = unlike_ticks(disc, other)
        with self.subTest(disc=disc, other=other):
            if length is None:
                self.assertFalse(self.is_unlike(disc, other, round_of(disc, other)))
            else:
                # Longer lists are unlike where shorter ones are.
                self.assertTrue(self.is_unlike(disc, other, length))
                self.assertGreaterEqual(length, 1)
                self.assertFalse(length > 1 and self.is_unlike(disc, other, length - 1))
        return length

    def test_as_defined(self):
        found = [self.check(disc, other) for disc, other in pairs()]
        for length in (None, 1, 2, 3, 4, 5):
            self.assertIn(length, found)

    def test_small_discs_length_by_length(self):
        for disc, other in pairs()[::2]:
            lengths = range(1, round_of(disc, other) + 2)
            found = [length for length in lengths if self.is_unlike(disc, other, length)]
            self.assertEqual(unlike_ticks(disc, other), found[0] if found else None)

    def test_long_rounds(self):
        for disc, other in long_pairs():
            self.check(disc, other)

    def test_edges(self):
        self.assertEqual(unlike_ticks([0], [0]), 1)
        self.assertEqual(unlike_ticks([MOST], [MOST]), 1)
        self.assertIsNone(unlike_ticks([0, 0], [0]))
        self.assertIsNone(unlike_ticks([1] * 39, [1] * 40))
        self.assertEqual(unlike_ticks([1] + [0] * 38, [1] + [0] * 39), 1559)
        self.assertEqual(unlike_ticks([1, 2, 3], [1]), 1)
        self.assertEqual(unlike_ticks([0, 1], [1]), 1)
        self.assertEqual(unlike_ticks([0, 0, 1], [1]), 2)
        # The round of both rings counts, also if the lights come again sooner.
        self.assertEqual(unlike_ticks([0, 1], [1, 1]), 1)
        self.assertIsNone(unlike_ticks([0, 1], [1, 1, 1, 1]))
