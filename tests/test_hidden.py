"""[7], [8], [12]: telling discs, blind divisors and hidden rows."""

import cmath
import functools
import itertools
import random
import unittest

from slitdiscs.hidden import blind_divisors, hidden_count, hidden_rows, is_hidden, is_telling
from tests.plain import (
    disc_with_blind, is_in_steps, one_solution, plain_lights, plain_polynomials, rows_without_sums, table_of,
)
from tests.samples import MOST, NO_INTEGERS, NO_LIST_OF_SLOTS, some_discs


def divisors_of(number):
    return [divisor for divisor in range(1, number + 1) if number % divisor == 0]


def degrees_of(number):
    """The degree of C(d) for each divisor d: as many as there are powers that have just the order d."""
    return {d: sum(1 for k in range(number) if number // max_common(number, k) == d) for d in divisors_of(number)}


def max_common(number, other):
    return max(d for d in divisors_of(number) if other % d == 0)


def small_discs():
    found = [list(items) for slots in (1, 2, 3, 4) for items in itertools.product(range(3), repeat=slots)]
    found += [list(items) for slots in (5, 6, 7) for items in itertools.product(range(2), repeat=slots)]
    for slots in (8, 9, 10, 12):
        found += some_discs(12, slots, 1) + some_discs(3, slots, MOST)
    return found + [disc * 2 for disc in some_discs(6, 5, 2)] + [disc * 3 for disc in some_discs(6, 4, 2)]


@functools.lru_cache(None)
def with_known_divisors():
    """Pairs of a disc of many slots and its blind divisors, 1 not among them."""
    source = random.Random(5)
    found = []
    for slots in (12, 24, 30, 36, 40):
        divisors = divisors_of(slots)[1:]
        for _ in range(12):
            blind = [divisor for divisor in divisors if source.random() < 0.4]
            found.append((slots, blind, [source.randint(-50, 50), source.randint(-99, -60)]))
    for slots in (2, 3, 31, 37, 38, 39):
        for many in range(len(divisors_of(slots))):
            for blind in itertools.combinations(divisors_of(slots)[1:], many):
                found.append((slots, list(blind), [5, -700]))
    return [(disc_with_blind(slots, blind, more), blind) for slots, blind, more in found]


class BlindTest(unittest.TestCase):
    def test_polynomials_of_the_document(self):
        found = plain_polynomials(12)
        self.assertEqual([found[1], found[2], found[3], found[4]], [[-1, 1], [1, 1], [1, 1, 1], [1, 0, 1]])

    def test_roots(self):
        # C(d) divides if the roots of unity of order d are roots; these numbers are small.
        for disc in small_discs():
            if max(disc) > 2:
                continue
            size = len(disc)
            blind = []
            for divisor in divisors_of(size):
                root = cmath.exp(2j * cmath.pi / divisor)
                if abs(sum(light * root ** slot for slot, light in enumerate(disc))) < 1e-9:
                    blind.append(divisor)
            with self.subTest(disc=disc):
                self.assertEqual(blind_divisors(disc), blind)

    def test_known_divisors(self):
        for disc, blind in with_known_divisors():
            with self.subTest(disc=disc):
                degrees = degrees_of(len(disc))
                # A disc without any light is blind at 1, too: none is so here.
                self.assertGreater(sum(disc), 0)
                self.assertEqual(blind_divisors(disc), blind)
                self.assertEqual(hidden_count(disc), sum(degrees[divisor] for divisor in blind))
                self.assertIs(is_telling(disc), not blind)

    def test_great_numbers(self):
        # One more at a single slot, and the disc tells; floats could not see it.
        for slots in (2, 3, 4, 36, 37, 40):
            disc = [MOST - 1] * slots
            self.assertEqual(blind_divisors(disc), divisors_of(slots)[1:])
            self.assertEqual(hidden_count(disc), slots - 1)
            disc[slots // 2] += 1
            self.assertEqual(blind_divisors(disc), [])
            self.assertIs(is_telling(disc), True)
            disc[slots // 2] += -2
            self.assertEqual(blind_divisors(disc), [])

    def test_edges(self):
        for slots in (1, 2, 12, 37, 40):
            self.assertEqual(blind_divisors([0] * slots), divisors_of(slots))
            self.assertEqual(hidden_count([0] * slots), slots)
            self.assertIs(is_telling([0] * slots), False)
            self.assertEqual(blind_divisors([0] * (slots - 1) + [MOST]), [])
            self.assertIs(is_telling([0] * (slots - 1) + [MOST]), True)
        self.assertEqual(blind_divisors([7]), [])
        self.assertEqual(blind_divisors([1, 0] * 20), [4, 5, 8, 10, 20, 40])

    def test_shorter_periods(self):
        # What comes again after 10 slots shows nothing of the divisors of 40 that are none of 10.
        disc = some_discs(1, 10, MOST)[0]
        self.assertEqual(blind_divisors(disc * 4), [4, 8, 20, 40])
        self.assertEqual(blind_divisors([5, 7] * 3), [3, 6])
        self.assertEqual(blind_divisors([1, 0] * 3), [3, 6])
        self.assertEqual(blind_divisors([1, 1] * 3), [2, 3, 6])


class HiddenRowsTest(unittest.TestCase):
    def test_small_discs(self):
        for disc in small_discs():
            with self.subTest(disc=disc):
                rows = hidden_rows(disc)
                self.assertEqual(rows, rows_without_sums(table_of(disc)))
                self.assertEqual(hidden_count(disc), len(rows))
                self.assertIs(is_telling(disc), rows == [])

    def test_search(self):
        for disc in ([1, 0, 1, 0], [1, 1, 0, 0], [2, 1, 2, 1], [1, 1, 1], [0, 0], [1, 2, 0, 1], [1, 1, 1, 0]):
            rows = hidden_rows(disc)
            found = [list(row) for row in itertools.product(range(-2, 3), repeat=len(disc))]
            for row in found:
                hidden = not any(plain_lights(disc, row))
                self.assertIs(is_hidden(disc, row), hidden)
                # The sum of multiples is the one with these numbers at the first places.
                made = [0] * len(disc)
                for step in rows:
                    place = [bool(item) for item in step].index(True)
                    factor = (row[place] - made[place]) // step[place]
                    made = [item + factor * more for item, more in zip(made, step)]
                self.assertIs(made == row, hidden)

    def test_many_slots(self):
        for disc, blind in with_known_divisors():
            with self.subTest(disc=disc):
                degrees = degrees_of(len(disc))
                rows = hidden_rows(disc)
                self.assertEqual(len(rows), sum(degrees[divisor] for divisor in blind))
                self.assertTrue(is_in_steps(rows))
                for at, row in enumerate(rows):
                    self.assertFalse(any(plain_lights(disc, row)))
                    # With 1 at the first place no hidden row is left out between the multiples.
                    self.assertEqual(row[:len(rows)], [int(slot == at) for slot in range(len(rows))])

    def test_great_numbers(self):
        for slots in (6, 12, 36, 40):
            disc = some_discs(1, slots // 2, MOST)[0] * 2
            half = slots // 2
            wanted = [[int(slot == at) - int(slot == at + half) for slot in range(slots)] for at in range(half)]
            self.assertEqual(hidden_rows(disc), wanted)
            self.assertEqual(hidden_count(disc), half)

    def test_edges(self):
        for slots in (1, 2, 37, 40):
            units = [[int(slot == at) for slot in range(slots)] for at in range(slots)]
            self.assertEqual(hidden_rows([0] * slots), units)
            self.assertEqual(hidden_rows([1] + [0] * (slots - 1)), [])
            less = [[int(slot == at) - int(slot == slots - 1) for slot in range(slots)] for at in range(slots - 1)]
            self.assertEqual(hidden_rows([MOST] * slots), less)
            self.assertEqual(hidden_count([MOST] * slots), slots - 1)
        self.assertEqual(hidden_rows([1, 0] * 2 + [0, 0]), [])
        self.assertEqual(hidden_rows([1, 0, 0, 1, 0, 0]), [
            [1, 0, 0, -1, 0, 0], [0, 1, 0, 0, -1, 0], [0, 0, 1, 0, 0, -1],
        ])

    def test_never_both(self):
        # [4]: a disc has a hidden row beside that of 0 alone, or there is just one row for all lights.
        for disc in small_discs()[::3]:
            lights = [1] + [0] * (len(disc) - 1)
            readable = one_solution(table_of(disc), lights) is not None
            self.assertIs(readable, not hidden_rows(disc))
            self.assertIs(readable, is_telling(disc))


class IsHiddenTest(unittest.TestCase):
    def test_no_rows(self):
        for value in NO_LIST_OF_SLOTS + [[0] * 3, [0] * 5, (0, 0, 0, 0), [[0, 0, 0, 0]]]:
            self.assertIs(is_hidden([1, 0, 1, 0], value), False)
            self.assertIs(is_hidden([0, 0, 0, 0], value), False)
        for item in NO_INTEGERS:
            for row in ([item, 0, 0, 0], [0, item, 0, 0], [0, 0, 0, item]):
                self.assertIs(is_hidden([0, 0, 0, 0], row), False)
        self.assertIs(is_hidden([0], [0] * 2), False)
        self.assertIs(is_hidden([0] * 40, [0] * 41), False)

    def test_sums_of_hidden_rows(self):
        source = random.Random(8)
        for disc, blind in with_known_divisors()[::5]:
            rows = hidden_rows(disc)
            made = [0] * len(disc)
            for row in rows:
                factor = source.randint(-10 ** 60, 10 ** 60)
                made = [item + factor * more for item, more in zip(made, row)]
            self.assertIs(is_hidden(disc, made), True)
            made[source.randrange(len(disc))] += 1
            self.assertIs(is_hidden(disc, made), False)

    def test_great_rows(self):
        great = 10 ** 5000
        self.assertIs(is_hidden([1, 0, 1, 0], [great, -great, -great, great]), True)
        self.assertIs(is_hidden([1, 0, 1, 0], [great, -great, 1 - great, great]), False)
        self.assertIs(is_hidden([MOST] * 40, [great] + [0] * 38 + [-great]), True)
        self.assertIs(is_hidden([0], [great]), True)
        self.assertIs(is_hidden([1], [great]), False)
        self.assertIs(is_hidden([1], [0]), True)

    def test_one_turn_alone_does_not_make_it(self):
        # The light is 0 at all turns but one.
        self.assertEqual(plain_lights([1, 0, 0, 0], [0, 0, 0, 1]), [0, 1, 0, 0])
        for at in range(4):
            self.assertIs(is_hidden([1, 0, 0, 0], [int(slot == at) for slot in range(4)]), False)
