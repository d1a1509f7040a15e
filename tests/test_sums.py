"""[15]: sums that are sure, and discs that hide the same rows."""

import itertools
import random
import unittest
from math import gcd

from slitdiscs.errors import Impossible
from slitdiscs.hidden import hidden_rows
from slitdiscs.sums import alike_lights, is_sure, read_sum, sure_rows
from tests.plain import (
    disc_with_blind, is_in_steps, one_solution, plain_lights, reduced, rows_without_sums, table_of,
)
from tests.samples import MOST, some_discs

DISCS = [
    [0], [3], [0, 0], [1, 1], [2, 1], [1, 1, 1], [1, 0, 2], [1, 0, 1, 0], [1, 1, 0, 0], [2, 1, 2, 1], [1, 2, 3, 4],
]
LONGER = [
    [1, 1, 1, 0, 0, 0], [1, 0, 0, 1, 0, 0], [1, 1, 0, 1, 0, 0, 0], [1, 1, 0, 0] * 3, [7, 0, 3] * 3, [MOST, 5] * 5,
    [0] * 12, [MOST] * 11, disc_with_blind(12, [3, 4], [2, 5]), disc_with_blind(12, [2, 12], [2, 5]),
]


def long_discs():
    found = [[0] * 40, [MOST] * 40, [1, 0] * 20, [1] + [0] * 39, [0] * 36 + [MOST], some_discs(1, 20, MOST)[0] * 2]
    for slots, blind in ((40, [5, 40]), (36, [2, 12, 18]), (30, [3, 30]), (39, [3, 13, 39]), (37, [])):
        found.append(disc_with_blind(slots, blind, [3, 10 ** 20, 10 ** 24]))
    return found + some_discs(2, 40, MOST)


def dot(one, two):
    return sum(first * second for first, second in zip(one, two))


class SureTest(unittest.TestCase):
    def test_search(self):
        # The sums for all rows of small numbers, by their lights.
        for disc in DISCS:
            size = len(disc)
            found = {}
            for other in itertools.product(range(-1, 2), repeat=size):
                found.setdefault(tuple(plain_lights(disc, other)), []).append(other)
            for row in itertools.product(range(-2, 3), repeat=size):
                sure = all(len({dot(row, other) for other in others}) == 1 for others in found.values())
                with self.subTest(disc=disc, row=row):
                    self.assertIs(is_sure(disc, list(row)), sure)

    def test_rows_of_the_table_are_sure(self):
        source = random.Random("sure")
        for disc in long_discs():
            made = [0] * len(disc)
            for row in table_of(disc):
                self.assertIs(is_sure(disc, row), True)
                factor = source.randint(-10 ** 50, 10 ** 50)
                made = [item + factor * more for item, more in zip(made, row)]
            self.assertIs(is_sure(disc, made), True)
            for at in (0, len(disc) // 2, len(disc) - 1):
                made[at] += 1
                self.assertIs(is_sure(disc, made), all(row[at] == 0 for row in hidden_rows(disc)))
                made[at] -= 1

    def test_edges(self):
        for disc in DISCS + LONGER + long_discs():
            size = len(disc)
            self.assertIs(is_sure(disc, [0] * size), True)
            self.assertIs(is_sure(disc, [1] * size), any(disc))
            telling = not hidden_rows(disc)
            self.assertIs(is_sure(disc, [1] + [0] * (size - 1)), telling)
            self.assertIs(is_sure(disc, [0] * (size - 1) + [-10 ** 5000]), telling)

    def test_sure_rows(self):
        for disc in DISCS + LONGER:
            with self.subTest(disc=disc):
                # The sure rows are those with the sum 0 with each hidden one.
                hidden = rows_without_sums(table_of(disc))
                wanted = rows_without_sums(hidden or [[0] * len(disc)])
                self.assertEqual(sure_rows(disc), wanted)

    def test_sure_rows_of_many_slots(self):
        for disc in long_discs():
            size = len(disc)
            with self.subTest(disc=disc):
                rows = sure_rows(disc)
                hidden = hidden_rows(disc)
                self.assertEqual(len(rows) + len(hidden), size)
                self.assertTrue(is_in_steps(rows))
                for at, row in enumerate(rows):
                    self.assertIs(is_sure(disc, row), True)
                    self.assertFalse(any(dot(row, other) for other in hidden))
                    # With 1 at the first place no sure row is left out between the multiples.
                    self.assertEqual(row[:len(rows)], [int(slot == at) for slot in range(len(rows))])

    def test_sure_rows_of_plain_discs(self):
        for slots in (1, 2, 37, 40):
            units = [[int(slot == at) for slot in range(slots)] for at in range(slots)]
            self.assertEqual(sure_rows([0] * slots), [])
            self.assertEqual(sure_rows([MOST] * slots), [[1] * slots])
            self.assertEqual(sure_rows([0] * (slots - 1) + [MOST]), units)


class ReadSumTest(unittest.TestCase):
    def test_small_lights(self):
        for disc in DISCS:
            rows = sure_rows(disc)
            for lights in itertools.product(range(-1, 3), repeat=len(disc)):
                found = one_solution(table_of(disc), lights)
                for row in rows + [[sum(items) for items in zip(*rows)]] if rows else [[0] * len(disc)]:
                    with self.subTest(disc=disc, lights=lights, row=row):
                        if found is None:
                            with self.assertRaises(Impossible):
                                read_sum(disc, list(lights), row)
                        else:
                            total = dot(row, found)
                            wanted = (total.numerator, total.denominator) if total else (0, 1)
                            self.assertEqual(read_sum(disc, list(lights), row), wanted)

    def test_more_slots(self):
        source = random.Random("sums")
        for disc in LONGER:
            # The lights of some rows of fractions, which are made of the rows of the table.
            for _ in range(4):
                lights = [0] * len(disc)
                for row in sure_rows(disc):
                    factor = source.randint(-5, 5)
                    lights = [light + factor * item for light, item in zip(lights, row)]
                other = one_solution(table_of(disc), lights)
                row = plain_lights(disc, [source.randint(-3, 3) for _ in disc])
                with self.subTest(disc=disc, lights=lights, row=row):
                    total = dot(row, other)
                    self.assertEqual(read_sum(disc, lights, row), (total.numerator, total.denominator))

    def test_many_slots(self):
        source = random.Random("many")
        for disc in long_discs():
            size = len(disc)
            other = [source.randint(-10 ** 40, 10 ** 40) for _ in range(size)]
            by = [source.randint(-10 ** 40, 10 ** 40) for _ in range(size)]
            lights, row = plain_lights(disc, other), plain_lights(disc, by)
            common = gcd(*row) or 1
            with self.subTest(disc=disc):
                # The row is the lights of by, and so the sum is that of by with the lights.
                self.assertEqual(read_sum(disc, lights, row), (dot(row, other), 1))
                less = [item // common for item in row]
                self.assertEqual(read_sum(disc, lights, less), (dot(less, other), 1))
                sure = sure_rows(disc)
                if sure:
                    self.assertEqual(read_sum(disc, sure[-1], less), reduced(dot(by, sure[-1]), common))
                    self.assertEqual(read_sum(disc, sure[0], row), (dot(by, sure[0]), 1))

    def test_fractions(self):
        self.assertEqual(read_sum([2, 0], [1, 0], [-1, 5]), (-1, 2))
        self.assertEqual(read_sum([2, 0], [1, 0], [2, 0]), (1, 1))
        self.assertEqual(read_sum([2, 0], [1, 0], [0, 7]), (0, 1))
        self.assertEqual(read_sum([6, 0], [4, 2], [1, 1]), (1, 1))
        self.assertEqual(read_sum([6, 0], [4, 3], [1, 1]), (7, 6))
        self.assertEqual(read_sum([MOST], [-1], [1]), (-1, MOST))
        self.assertEqual(read_sum([MOST], [0], [1]), (0, 1))
        self.assertEqual(read_sum([3, 3], [1, 1], [1, 1]), (1, 3))
        self.assertEqual(read_sum([3], [10 ** 5000], [3 * 10 ** 5000]), (10 ** 10000, 1))
        self.assertEqual(read_sum([0, 0, 0], [0, 0, 0], [0, 0, 0]), (0, 1))

    def test_impossible(self):
        for disc, lights, row in [
            ([1, 0, 1, 0], [5, 3, 5, 3], [1, 0, 0, 0]), ([1, 0, 1, 0], [5, 3, 4, 3], [1, 0, 1, 0]),
            ([1, 0, 1, 0], [5, 3, 4, 3], [0, 0, 0, 0]), ([0], [0], [1]), ([0], [1], [0]), ([0], [1], [1]),
            ([MOST] * 40, [1] * 39 + [0], [1] * 40), ([MOST] * 40, [1] * 40, [1] * 39 + [0]),
        ]:
            with self.subTest(disc=disc, lights=lights, row=row):
                with self.assertRaises(Impossible):
                    read_sum(disc, lights, row)


class AlikeTest(unittest.TestCase):
    def test_small_discs(self):
        for slots in (1, 2, 3, 4):
            found = [list(items) for items in itertools.product(range(3), repeat=slots)]
            hidden = [rows_without_sums(table_of(disc)) for disc in found]
            for one, rows in list(zip(found, hidden))[::2]:
                for two, others in zip(found, hidden):
                    with self.subTest(one=one, two=two):
                        self.assertIs(alike_lights(one, two), rows == others)

    def test_many_slots(self):
        found = [disc for disc in long_discs() if len(disc) == 40]
        for one, two in itertools.product(found, found):
            self.assertIs(alike_lights(one, two), hidden_rows(one) == hidden_rows(two))
        self.assertIs(alike_lights([0] * 40, [0] * 40), True)
        self.assertIs(alike_lights([1] + [0] * 39, [MOST - 1] * 39 + [MOST]), True)
        self.assertIs(alike_lights([1] * 40, [MOST] * 40), True)
        self.assertIs(alike_lights([MOST] * 40, [MOST] * 39 + [MOST - 1]), False)

    def test_as_many_hidden_rows_are_not_enough(self):
        # C(3) and C(4) are both of degree 2.
        one, two = disc_with_blind(12, [3], [2, 5]), disc_with_blind(12, [4], [2, 5])
        self.assertEqual(len(hidden_rows(one)), len(hidden_rows(two)))
        self.assertIs(alike_lights(one, two), False)
        self.assertIs(alike_lights(one, disc_with_blind(12, [3], [7, 9])), True)
