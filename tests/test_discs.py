"""[5], [10]: discs."""

import unittest

from slitdiscs.discs import (
    are_like, disc_period, is_disc, is_slotted, least_disc, like_form, mirrored_disc, turn_between, turned_disc,
)
from tests.samples import MOST, some_discs, wrong_discs


def plain_turned(disc, turn):
    """The disc turned as [5] words it: at slot i + t it has what it had at slot i."""
    turned = [None] * len(disc)
    for slot, light in enumerate(disc):
        turned[(slot + turn) % len(disc)] = light
    return turned


def plain_mirrored(disc):
    """The mirrored disc as [5] words it: at slot -i it has what the disc had at slot i."""
    mirrored = [None] * len(disc)
    for slot, light in enumerate(disc):
        mirrored[-slot % len(disc)] = light
    return mirrored


def sample_discs():
    found = [[0], [MOST], [0] * 40, [MOST] * 40, [0] * 39 + [MOST], [3, 3, 3], [5, 7, 5, 7], [1, 2, 3] * 13]
    for slots in (1, 2, 3, 4, 5, 6, 8, 12, 39, 40):
        found += some_discs(4, slots, 1) + some_discs(4, slots, 2) + some_discs(1, slots, MOST)
    return found


class JudgedTest(unittest.TestCase):
    def test_discs(self):
        for disc in sample_discs():
            self.assertIs(is_disc(disc), True)
            self.assertIs(is_slotted(disc), all(item in (0, 1) for item in disc))

    def test_no_discs(self):
        for value, _ in wrong_discs():
            with self.subTest(value=value):
                self.assertIs(is_disc(value), False)
                self.assertIs(is_slotted(value), False)

    def test_edges(self):
        self.assertIs(is_disc([0] * 40), True)
        self.assertIs(is_disc([0] * 41), False)
        self.assertIs(is_disc([]), False)
        self.assertIs(is_disc([MOST]), True)
        self.assertIs(is_disc([0, MOST + 1]), False)
        self.assertIs(is_disc([0, -1]), False)
        self.assertIs(is_slotted([1] * 40), True)
        self.assertIs(is_slotted([1] * 41), False)
        self.assertIs(is_slotted([0]), True)
        self.assertIs(is_slotted([0, 1, 2]), False)
        self.assertIs(is_slotted([0, 1, True]), False)
        self.assertIs(is_slotted([0, 1, -1]), False)
        self.assertIs(is_slotted([MOST]), False)


class TurnedTest(unittest.TestCase):
    def test_as_defined(self):
        for disc in sample_discs():
            size = len(disc)
            for turn in (0, 1, 2, -1, size - 1, size, size + 1, -size, 3 * size, 10 ** 39, -10 ** 39 + 1):
                with self.subTest(disc=disc, turn=turn):
                    self.assertEqual(turned_disc(disc, turn), plain_turned(disc, turn))

    def test_many_digits(self):
        disc = [4, 5, 6, 7, 8, 9, 1]
        round_turn = 7 * 10 ** 39
        self.assertEqual(turned_disc(disc, round_turn), disc)
        self.assertEqual(turned_disc(disc, -round_turn), disc)
        self.assertEqual(turned_disc(disc, round_turn + 2), [9, 1, 4, 5, 6, 7, 8])
        self.assertEqual(turned_disc(disc, -round_turn - 1), [5, 6, 7, 8, 9, 1, 4])
        self.assertEqual(turned_disc(disc, 10 ** 400 * 7 + 1), [1, 4, 5, 6, 7, 8, 9])

    def test_mirrored(self):
        for disc in sample_discs():
            with self.subTest(disc=disc):
                self.assertEqual(mirrored_disc(disc), plain_mirrored(disc))
                self.assertEqual(mirrored_disc(mirrored_disc(disc)), disc)
        self.assertEqual(mirrored_disc([1, 2, 3, 4]), [1, 4, 3, 2])
        self.assertEqual(mirrored_disc([9]), [9])
        self.assertEqual(mirrored_disc([8, 9]), [8, 9])


class PeriodTest(unittest.TestCase):
    def test_as_defined(self):
        for disc in sample_discs():
            with self.subTest(disc=disc):
                turns = [turn for turn in range(1, len(disc) + 1) if plain_turned(disc, turn) == disc]
                self.assertEqual(disc_period(disc), turns[0])

    def test_edges(self):
        self.assertEqual(disc_period([0]), 1)
        self.assertEqual(disc_period([7] * 40), 1)
        self.assertEqual(disc_period([1, 2] * 20), 2)
        self.assertEqual(disc_period([1, 2, 3] * 13), 3)
        self.assertEqual(disc_period([0] * 39 + [1]), 40)
        self.assertEqual(disc_period([0, 1, 1]), 3)
        self.assertEqual(disc_period([1, 0, 1, 0, 1]), 5)


class BetweenTest(unittest.TestCase):
    def test_each_turn_of_a_disc(self):
        for disc in sample_discs():
            for turn in range(len(disc)):
                with self.subTest(disc=disc, turn=turn):
                    self.assertEqual(turn_between(disc, plain_turned(disc, turn)), turn % disc_period(disc))

    def test_none(self):
        self.assertIsNone(turn_between([0], [1]))
        self.assertIsNone(turn_between([0, 1, 1], [0, 0, 1]))
        self.assertIsNone(turn_between([1, 2, 3], [3, 2, 1]))
        self.assertIsNone(turn_between([0] * 39 + [MOST], [0] * 39 + [MOST - 1]))

    def test_from_the_first_to_the_second(self):
        self.assertEqual(turn_between([1, 0, 0, 0], [0, 1, 0, 0]), 1)
        self.assertEqual(turn_between([0, 1, 0, 0], [1, 0, 0, 0]), 3)
        self.assertEqual(turn_between([3, 3, 3], [3, 3, 3]), 0)


class LikeTest(unittest.TestCase):
    def test_forms_as_defined(self):
        for disc in sample_discs():
            with self.subTest(disc=disc):
                turned = [plain_turned(disc, turn) for turn in range(len(disc))]
                back = [plain_turned(plain_mirrored(disc), turn) for turn in range(len(disc))]
                self.assertEqual(least_disc(disc), min(turned))
                self.assertEqual(like_form(disc), min(turned + back))

    def test_forms_differ_beside_a_mirror(self):
        self.assertEqual(least_disc([3, 2, 1]), [1, 3, 2])
        self.assertEqual(like_form([3, 2, 1]), [1, 2, 3])
        self.assertEqual(least_disc([1, 2, 3]), [1, 2, 3])

    def test_alike(self):
        for disc in sample_discs():
            for turn in (0, 1, 7, len(disc) - 1):
                self.assertIs(are_like(disc, plain_turned(disc, turn)), True)
                self.assertIs(are_like(disc, plain_turned(plain_mirrored(disc), turn)), True)
                self.assertIs(are_like(plain_turned(plain_mirrored(disc), turn), disc), True)

    def test_unlike(self):
        self.assertIs(are_like([0], [1]), False)
        self.assertIs(are_like([0, 1, 2, 3], [0, 2, 1, 3]), False)
        self.assertIs(are_like([1, 1, 0, 0], [1, 0, 1, 0]), False)
        self.assertIs(are_like([0] * 39 + [MOST], [0] * 39 + [MOST - 1]), False)

    def test_all_pairs_of_small_discs(self):
        found = [[a, b, c, d] for a in (0, 1, 2) for b in (0, 1, 2) for c in (0, 1, 2) for d in (0, 1, 2)]
        for disc in found:
            like = [plain_turned(row, turn) for row in (disc, plain_mirrored(disc)) for turn in range(4)]
            for other in found:
                self.assertIs(are_like(disc, other), other in like)
