"""[13], [14]: reading a row from its lights, lights that no row has, and the first row."""

import itertools
import random
import unittest
from math import gcd

from slitdiscs.errors import Impossible
from slitdiscs.hidden import hidden_rows, is_telling
from slitdiscs.reading import first_row, lights_fault, read_row, reading_row
from tests.plain import disc_with_blind, one_solution, plain_lights, rows_in_steps, table_of
from tests.samples import MOST, some_discs

SOURCE_WORD = "reading"
BLIND = [[1, 0, 1, 0], [1, 1, 0, 0], [2, 1, 2, 1], [1, 1, 1], [0, 0], [1, 1, 1, 0, 0, 0], [1, 0, 0, 1, 0, 0], [0]]


def great_blind_discs():
    """Discs of up to 40 slots with hidden rows, some with great numbers."""
    found = [[0] * 40, [MOST] * 40, [MOST - 7] * 37, [1, 0] * 20, some_discs(1, 20, MOST)[0] * 2, [7, 0, 3] * 12]
    for slots, blind in ((40, [5, 40]), (36, [2, 12, 18]), (30, [3, 30]), (12, [4, 6]), (39, [3])):
        found.append(disc_with_blind(slots, blind, [3, 10 ** 20, 10 ** 24]))
    return found


def telling_discs():
    found = [list(items) for slots in (1, 2, 3, 4) for items in itertools.product(range(3), repeat=slots)]
    for slots in (5, 6, 7, 8, 11, 12, 13, 20, 36):
        found += some_discs(5, slots, 1) + some_discs(2, slots, 30) + some_discs(1, slots, MOST)
    for slots in (37, 39, 40):
        found += some_discs(2, slots, 1) + some_discs(1, slots, MOST)
    for slots in (1, 2, 6, 37, 40):
        found += [[0] * (slots - 1) + [MOST], [MOST - 1] * (slots - 1) + [MOST], [MOST] + [MOST - 1] * (slots - 1)]
    return [disc for disc in found if is_telling(disc)]


def rows_beside(disc, source):
    """Some rows beside a disc: of small numbers, of many digits, and a single one."""
    size = len(disc)
    single = [0] * size
    single[source.randrange(size)] = source.choice([1, -1, 10 ** 50])
    return [
        single,
        [source.randint(-3, 3) for _ in range(size)],
        [source.randint(-10 ** 60, 10 ** 60) for _ in range(size)],
    ]


class ReadingRowTest(unittest.TestCase):
    def test_as_defined(self):
        for disc in telling_discs():
            with self.subTest(disc=disc):
                row, bottom = reading_row(disc)
                size = len(disc)
                self.assertEqual(len(row), size)
                self.assertGreaterEqual(bottom, 1)
                self.assertEqual(gcd(bottom, *row), 1)
                # It is enough for each row with one light alone: all others are sums of these.
                for slot in range(size):
                    lights = plain_lights(disc, [int(at == slot) for at in range(size)])
                    for j in range(size):
                        total = sum(row[turn] * lights[(turn - j) % size] for turn in range(size))
                        self.assertEqual(total, bottom if j == slot else 0)

    def test_rows_are_read(self):
        source = random.Random(SOURCE_WORD)
        for disc in telling_discs()[::4]:
            row, bottom = reading_row(disc)
            size = len(disc)
            for other in rows_beside(disc, source):
                lights = plain_lights(disc, other)
                for j in (0, size // 2, size - 1):
                    total = sum(row[turn] * lights[turn - j] for turn in range(size))
                    self.assertEqual(total, bottom * other[j])

    def test_edges(self):
        self.assertEqual(reading_row([1]), ([1], 1))
        self.assertEqual(reading_row([7]), ([1], 7))
        self.assertEqual(reading_row([0, 1]), ([0, 1], 1))
        self.assertEqual(reading_row([1, 2]), ([-1, 2], 3))
        self.assertEqual(reading_row([0, 2, 0]), ([0, 1, 0], 2))
        self.assertEqual(reading_row([0, 0, 1]), ([0, 0, 1], 1))
        self.assertEqual(reading_row([1] + [0] * 39), ([1] + [0] * 39, 1))
        self.assertEqual(reading_row([0] * 39 + [MOST]), ([0] * 39 + [1], MOST))
        # All numbers have 6 in common.
        self.assertEqual(reading_row([6, 12]), ([-1, 2], 18))

    def test_impossible(self):
        for disc in BLIND + great_blind_discs():
            with self.subTest(disc=disc):
                with self.assertRaises(Impossible):
                    reading_row(disc)
                with self.assertRaises(Impossible):
                    read_row(disc, [0] * len(disc))
                with self.assertRaises(Impossible):
                    read_row(disc, plain_lights(disc, disc))


class ReadRowTest(unittest.TestCase):
    def test_rows_come_back(self):
        source = random.Random(SOURCE_WORD)
        for disc in telling_discs():
            for row in rows_beside(disc, source):
                with self.subTest(disc=disc, row=row):
                    self.assertEqual(read_row(disc, plain_lights(disc, row)), row)

    def test_small_lights(self):
        for disc in ([2], [2, 1], [1, 0, 2], [1, 1, 0], [3, 1, 1], [1, 1, 1, 0], [0, 2, 0, 3]):
            for lights in itertools.product(range(-3, 5), repeat=len(disc)):
                row = one_solution(table_of(disc), lights)
                whole = [int(item) for item in row] if all(item.denominator == 1 for item in row) else None
                self.assertEqual(read_row(disc, list(lights)), whole)

    def test_rows_of_fractions_are_none(self):
        for disc in telling_discs()[::3]:
            _, bottom = reading_row(disc)
            if bottom > 1:
                with self.subTest(disc=disc):
                    lights = [1] + [0] * (len(disc) - 1)
                    self.assertIsNone(read_row(disc, lights))
                    self.assertIsNotNone(read_row(disc, [bottom] + [0] * (len(disc) - 1)))

    def test_one_fraction_alone(self):
        # With light at one slot each number of the row is read from one turn.
        disc = [0, 3, 0, 0]
        self.assertEqual(read_row(disc, [3, 6, -9, 0]), [2, 1, 0, -3])
        for at in range(4):
            self.assertIsNone(read_row(disc, [3 + int(at == slot) for slot in range(4)]))

    def test_great_lights(self):
        great = 10 ** 3000
        self.assertEqual(read_row([MOST], [-MOST * great]), [-great])
        self.assertIsNone(read_row([MOST], [-MOST * great + 1]))
        self.assertEqual(read_row([2, 1], plain_lights([2, 1], [great, -great])), [great, -great])


class FaultTest(unittest.TestCase):
    def check(self, disc, lights):
        row = lights_fault(disc, lights)
        size = len(disc)
        if row is None:
            return True
        self.assertEqual(len(row), size)
        self.assertTrue(all(type(item) is int and abs(item) < 10 ** 4000 for item in row))
        for slot in range(size):
            single = plain_lights(disc, [int(at == slot) for at in range(size)])
            self.assertEqual(sum(item * light for item, light in zip(row, single)), 0)
        self.assertNotEqual(sum(item * light for item, light in zip(row, lights)), 0)
        return False

    def test_small_lights(self):
        for disc in ([0], [3], [0, 0], [1, 1], [2, 1], [1, 1, 1], [1, 0, 2], [1, 0, 1, 0], [1, 1, 0, 0], [2, 1, 2, 1]):
            for lights in itertools.product(range(-1, 3), repeat=len(disc)):
                with self.subTest(disc=disc, lights=lights):
                    some = one_solution(table_of(disc), lights) is not None
                    self.assertIs(self.check(disc, list(lights)), some)

    def test_more_slots(self):
        source = random.Random(SOURCE_WORD)
        for disc in BLIND + [[1, 1, 0, 0] * 3, [1, 0, 2] * 3, disc_with_blind(12, [3, 4], [2, 5])]:
            for _ in range(12):
                lights = [source.randint(-1, 1) for _ in disc]
                some = one_solution(table_of(disc), lights) is not None
                self.assertIs(self.check(disc, lights), some)

    def test_lights_of_rows(self):
        source = random.Random(SOURCE_WORD)
        for disc in great_blind_discs():
            for row in rows_beside(disc, source):
                lights = plain_lights(disc, row)
                with self.subTest(disc=disc, lights=lights):
                    self.assertIsNone(lights_fault(disc, lights))
                    # A part of the lights is that of a row of fractions.
                    common = gcd(*lights)
                    if common:
                        self.assertIsNone(lights_fault(disc, [light // common for light in lights]))
                    # With one more at one turn they are no lights: no hidden row would be 0 there.
                    at = source.randrange(len(disc))
                    lights[at] += 1
                    some = all(row[at] == 0 for row in hidden_rows(disc))
                    self.assertIs(self.check(disc, lights), some)

    def test_telling_discs_have_no_fault(self):
        source = random.Random(SOURCE_WORD)
        for disc in telling_discs():
            lights = [source.randint(-10 ** 40, 10 ** 40) for _ in disc]
            self.assertIsNone(lights_fault(disc, lights))

    def test_edges(self):
        self.assertIs(self.check([0], [0]), True)
        self.assertIs(self.check([0], [10 ** 5000]), False)
        self.assertIs(self.check([0] * 40, [0] * 39 + [-1]), False)
        self.assertIs(self.check([MOST] * 40, [5] * 40), True)
        self.assertIs(self.check([MOST] * 40, [5] * 39 + [4]), False)


class FirstRowTest(unittest.TestCase):
    def check_row(self, disc, lights, row):
        self.assertEqual(plain_lights(disc, row), lights)
        for step in hidden_rows(disc):
            place = [bool(item) for item in step].index(True)
            self.assertTrue(0 <= row[place] < step[place])

    def test_search(self):
        # All rows of small numbers by their lights, against lights of all kinds.
        for disc in ([0], [2], [0, 0], [1, 1], [2, 2], [2, 1], [1, 1, 1], [1, 0, 1, 0], [1, 1, 0, 0], [2, 1, 2, 1]):
            size = len(disc)
            found = {}
            for row in itertools.product(range(-3, 4), repeat=size):
                found.setdefault(tuple(plain_lights(disc, row)), []).append(list(row))
            for lights in [*found, *itertools.product(range(-1, 3), repeat=size)]:
                with self.subTest(disc=disc, lights=lights):
                    row = first_row(disc, list(lights))
                    if row is None:
                        self.assertNotIn(lights, found)
                    else:
                        self.check_row(disc, list(lights), row)

    def test_lights_of_rows(self):
        source = random.Random(SOURCE_WORD)
        found = BLIND + [[1, 1, 0, 0] * 3, [MOST, 7] * 6, [MOST] * 11, [0] * 12, some_discs(1, 6, MOST)[0] * 2]
        found += [disc_with_blind(12, blind, [2, 5]) for blind in ([2], [3, 4], [6, 12], [2, 3, 4, 6, 12])]
        found += [disc for disc in telling_discs() if len(disc) <= 12][::5]
        for disc in found:
            for row in rows_beside(disc, source):
                with self.subTest(disc=disc, row=row):
                    lights = plain_lights(disc, row)
                    first = first_row(disc, lights)
                    self.check_row(disc, lights, first)
                    for step in hidden_rows(disc):
                        more = [item - 7 * number for item, number in zip(row, step)]
                        self.assertEqual(first_row(disc, plain_lights(disc, more)), first)

    def test_only_integers(self):
        # The lights of integers are the sums of multiples of the rows of the table.
        source = random.Random(SOURCE_WORD)
        for disc in ([2, 0, 2, 0], [2, 0, 1, 2, 0, 1], [3, 3, 0], [4, 1, 4, 1], [2, 2, 0, 0], [3, 1, 1, 3, 1, 1]):
            steps = rows_in_steps(table_of(disc))
            for _ in range(60):
                lights = [0] * len(disc)
                for row in table_of(disc):
                    factor = source.randint(-2, 2)
                    lights = [light + factor * item for light, item in zip(lights, row)]
                lights = [light // 2 for light in lights]
                whole = rows_in_steps(table_of(disc) + [lights]) == steps
                with self.subTest(disc=disc, lights=lights):
                    self.assertIs(first_row(disc, lights) is not None, whole)

    def test_fractions_and_faults_are_none(self):
        self.assertIsNone(first_row([2, 0, 2, 0], [1, 1, 1, 1]))
        self.assertEqual(first_row([2, 0, 2, 0], [2, 4, 2, 4]), [0, 0, 1, 2])
        self.assertIsNone(lights_fault([2, 0, 2, 0], [1, 1, 1, 1]))
        self.assertIsNone(first_row([0] * 12, [0] * 11 + [1]))
        self.assertEqual(first_row([0] * 12, [0] * 12), [0] * 12)
        self.assertIsNone(first_row([MOST], [1]))
        self.assertEqual(first_row([MOST], [-MOST]), [-1])
        self.assertEqual(first_row([1] * 12, [5] * 12), [0] * 11 + [5])
        self.assertIsNone(first_row([1] * 12, [5] * 11 + [6]))
        self.assertEqual(first_row([1, 0, 1, 0], [10 ** 5000, -1] * 2), [0, 0, 10 ** 5000, -1])

    def test_telling_discs(self):
        source = random.Random(SOURCE_WORD)
        for disc in telling_discs():
            if len(disc) <= 12:
                lights = [source.randint(-9, 9) for _ in disc]
                self.assertEqual(first_row(disc, lights), read_row(disc, lights))
