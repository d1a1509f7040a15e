"""[9], [18]: discs that are laid around one another, shut and multiplied ones, and other parts."""

import itertools
import random
import unittest
from math import gcd

from slitdiscs.discs import mirrored_disc, turned_disc
from slitdiscs.errors import Impossible, InvalidNumber
from slitdiscs.hidden import hidden_rows, is_telling
from slitdiscs.laid import laid_disc, multiplied_disc, other_part, shut_disc
from slitdiscs.lights import row_lights
from tests.plain import all_slotted, disc_with_blind, one_solution
from tests.samples import MOST, some_discs


def plain_laid(disc, other):
    """A disc laid around another one, as [9] words it: item i is the sum of disc[k] * other[i - k]."""
    size = len(disc)
    return [sum(disc[k] * other[(i - k) % size] for k in range(size)) for i in range(size)]


def pairs_of_discs():
    """Pairs of discs with as many slots: small ones and such of many slots and great numbers."""
    found = [pair for slots in (1, 2, 3, 4) for pair in itertools.product(all_slotted(slots), repeat=2)]
    found += [([MOST], [MOST]), ([0] * 40, [MOST] * 40), ([MOST] * 40, [MOST] * 40), ([7, 0] * 20, [0, 1, 2, 3] * 10)]
    for slots in (2, 3, 7, 12, 36, 37, 39, 40):
        for most in (1, 9, MOST):
            found.append(tuple(some_discs(2, slots, most)))
    return found


def telling_parts(slots):
    """Some telling discs with so many slots."""
    found = some_discs(3, slots, 1) + some_discs(3, slots, 9) + some_discs(2, slots, 10 ** 27)
    found += [[0] * (slots - 1) + [1], [3] + [0] * (slots - 1), [5] * (slots - 1) + [6]]
    return [disc for disc in found if is_telling(disc)]


class LaidDiscTest(unittest.TestCase):
    def test_as_defined(self):
        for disc, other in pairs_of_discs():
            with self.subTest(disc=disc, other=other):
                self.assertEqual(laid_disc(disc, other), plain_laid(disc, other))
                self.assertEqual(laid_disc(other, disc), plain_laid(disc, other))

    def test_a_single_slot_turns(self):
        disc = [5, 7, 0, 9, 9, 1]
        for turn in range(6):
            single = [int(slot == turn) for slot in range(6)]
            self.assertEqual(laid_disc(disc, single), turned_disc(disc, turn))
            self.assertEqual(laid_disc(single, disc), turned_disc(disc, turn))

    def test_edges(self):
        self.assertEqual(laid_disc([MOST], [MOST]), [MOST * MOST])
        self.assertEqual(laid_disc([0], [5]), [0])
        self.assertEqual(laid_disc([1, 2], [3, 4]), [11, 10])
        self.assertEqual(laid_disc([MOST] * 40, [MOST] * 40), [40 * MOST * MOST] * 40)
        self.assertEqual(laid_disc([0] * 40, [MOST] * 40), [0] * 40)

    def test_not_the_lights(self):
        # The lights are those of the mirrored disc.
        disc, other = [1, 2, 0, 0, 0], [3, 0, 4, 0, 5]
        self.assertEqual(laid_disc(disc, mirrored_disc(other)), row_lights(disc, other))
        self.assertNotEqual(laid_disc(disc, other), row_lights(disc, other))


class ShutDiscTest(unittest.TestCase):
    def test_small_discs(self):
        for slots in range(1, 8):
            for disc in all_slotted(slots):
                self.assertEqual(shut_disc(disc), [int(item == 0) for item in disc])
                self.assertEqual(shut_disc(shut_disc(disc)), disc)

    def test_edges(self):
        self.assertEqual(shut_disc([0]), [1])
        self.assertEqual(shut_disc([1]), [0])
        self.assertEqual(shut_disc([0] * 40), [1] * 40)
        self.assertEqual(shut_disc([0, 0, 1] * 13), [1, 1, 0] * 13)


class OtherPartTest(unittest.TestCase):
    def test_search(self):
        # All rows of small numbers by what they make, against all discs of small numbers.
        found = []
        for part in ([1], [2], [7], [1, 0], [2, 1], [0, 3], [1, 1, 0], [1, 2, 0], [2, 0, 1], [1, 1, 1, 0], [0, 2, 0, 3]):
            size = len(part)
            made = {}
            for row in itertools.product(range(-4, 5), repeat=size):
                made[tuple(plain_laid(part, row))] = list(row)
            for disc in itertools.product(range(4), repeat=size):
                with self.subTest(part=part, disc=disc):
                    row = other_part(list(disc), part)
                    self.assertEqual(row, made.get(disc))
                    found.append(row)
        self.assertGreater(found.count(None), 100)
        self.assertGreater(len(found) - found.count(None), 100)

    def test_rows_of_fractions_are_none(self):
        source = random.Random("other part")
        none = 0
        for slots in (1, 2, 3, 5, 6, 8):
            for part in telling_parts(slots):
                disc = [source.randint(0, 3) for _ in range(slots)]
                table = [[part[(i - k) % slots] for k in range(slots)] for i in range(slots)]
                row = one_solution(table, disc)
                whole = [int(item) for item in row] if all(item.denominator == 1 for item in row) else None
                none += whole is None
                with self.subTest(part=part, disc=disc):
                    self.assertEqual(other_part(disc, part), whole)
        self.assertGreater(none, 5)

    def test_other_parts_come_back(self):
        source = random.Random("other part")
        below = 0
        for slots in (1, 2, 3, 7, 12, 20, 36, 37, 39, 40):
            for part in telling_parts(slots):
                for least in (0, -1):
                    row = [source.choice([least, 0, 5, 17]) for _ in range(slots)]
                    disc = plain_laid(part, row)
                    if min(disc) >= 0:
                        below += min(row) < 0
                        with self.subTest(part=part, row=row):
                            self.assertEqual(other_part(disc, part), row)
        self.assertGreater(below, 10)

    def test_one_more_light(self):
        for slots in (2, 7, 12, 40):
            for part in telling_parts(slots):
                if sum(part) > 1:
                    row = list(range(slots))
                    disc = plain_laid(part, row)
                    disc[slots // 2] += 1
                    # The sum of the disc is that of the part times that of the row.
                    with self.subTest(part=part):
                        self.assertIsNone(other_part(disc, part))

    def test_edges(self):
        self.assertEqual(other_part([6], [2]), [3])
        self.assertIsNone(other_part([7], [2]))
        self.assertEqual(other_part([0], [2]), [0])
        self.assertEqual(other_part([MOST], [MOST]), [1])
        self.assertEqual(other_part([0] * 40, [1] + [0] * 39), [0] * 40)
        self.assertEqual(other_part([MOST] * 40, [0] * 39 + [MOST]), [1] * 40)
        self.assertEqual(other_part([1, 0, 0, 0], [0, 1, 0, 0]), [0, 0, 0, 1])
        self.assertEqual(other_part([4, 4], [3, 1]), [1, 1])
        self.assertEqual(other_part([0, 8], [3, 1]), [-1, 3])
        # The disc itself may have hidden rows.
        self.assertEqual(other_part([1, 1, 1], [1, 1, 1 + 1]), None)
        self.assertEqual(other_part([4, 4, 4], [1, 1, 2]), [1, 1, 1])

    def test_parts_that_are_not_telling(self):
        found = [[0], [0] * 40, [1] * 40, [1, 0] * 20, [1, 1, 0, 0], [2, 2], [MOST] * 7, [5, 0, 7] * 12]
        found += [disc_with_blind(12, [4], [2, 5]), disc_with_blind(40, [40], [3, 10 ** 20])]
        for part in found:
            self.assertTrue(hidden_rows(part))
            for disc in ([0] * len(part), part, [1] + [0] * (len(part) - 1)):
                with self.subTest(part=part, disc=disc), self.assertRaises(Impossible):
                    other_part(disc, part)


class MultipliedDiscTest(unittest.TestCase):
    def test_as_defined(self):
        for slots in (1, 2, 3, 4, 5, 6, 7, 8, 12, 15, 37, 40):
            disc = list(range(slots))
            for factor in [*range(-slots - 2, 2 * slots + 2), 10 ** 39 + 1, -10 ** 39 - 1, 10 ** 38 + 3]:
                if gcd(factor, slots) == 1:
                    found = multiplied_disc(disc, factor)
                    with self.subTest(slots=slots, factor=factor):
                        self.assertEqual([found[factor * slot % slots] for slot in range(slots)], disc)
                        self.assertEqual(found, multiplied_disc(disc, factor % slots))
                else:
                    with self.assertRaises(InvalidNumber):
                        multiplied_disc(disc, factor)

    def test_two_factors_are_their_product(self):
        disc = some_discs(1, 15, MOST)[0]
        for one, two in itertools.product((1, 2, 4, 7, 8, 11, 13, 14, -1, -7), repeat=2):
            self.assertEqual(multiplied_disc(multiplied_disc(disc, one), two), multiplied_disc(disc, one * two))

    def test_edges(self):
        for factor in (0, 1, -1, 2, 10 ** 39):
            self.assertEqual(multiplied_disc([MOST], factor), [MOST])
        self.assertEqual(multiplied_disc([5, 7], 10 ** 39 + 1), [5, 7])
        self.assertEqual(multiplied_disc([5, 7, 9], 2), [5, 9, 7])
        for slots in (3, 8, 40):
            disc = some_discs(1, slots, 9)[0]
            self.assertEqual(multiplied_disc(disc, 1), disc)
            self.assertEqual(multiplied_disc(disc, -1), mirrored_disc(disc))
