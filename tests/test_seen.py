"""[5], [6], [20], [21]: the slotted discs that fit what was seen, and the turns that tell them apart."""

import itertools
import random
import unittest

from slitdiscs.errors import Impossible, InvalidNumber
from slitdiscs.hidden import is_telling
from slitdiscs.lights import light_at
from slitdiscs.seen import clash_index, fits_count, nth_fit, sure_slots, telling_turns
from tests.plain import all_slotted, plain_lights
from tests.samples import MOST, some_discs

MANY = 10 ** 39


def plain_fits(disc, looks):
    """All slotted discs that have the lights, ascending: a search through all of them."""
    size = len(disc)
    found = []
    for other in all_slotted(size):
        lights = plain_lights(disc, other)
        if all(lights[turn % size] == light for turn, light in looks):
            found.append(other)
    return found


def plain_telling(disc, looks):
    """The least of the shortest lists of turns, by a search through all lists of turns; None if there is none."""
    lights = [plain_lights(disc, other) for other in plain_fits(disc, looks)]
    turns = range(len(disc))
    for many in range(len(disc) + 1):
        found = []
        for some in itertools.combinations(turns, many):
            if len({tuple(row[turn] for turn in some) for row in lights}) == len(lights):
                found.append(list(some))
        if found:
            return min(found)
    return None


def looks_beside(disc, source):
    """Lists of looks: of a disc that fits, cut short, and with a light that may not fit."""
    size = len(disc)
    other = [source.randint(0, 1) for _ in range(size)]
    lights = plain_lights(disc, other)
    turns = [source.choice([source.randrange(-2 * size, 3 * size), size * MANY + 1, -MANY]) for _ in range(5)]
    right = [(turn, lights[turn % size]) for turn in turns]
    wrong = list(right)
    wrong[source.randrange(5)] = (source.randrange(size), source.choice([0, 1, 2, *disc]))
    return [[], right[:1], right[:2], right, wrong, wrong[:2] + wrong, list(enumerate(lights))]


def small_discs():
    """Discs of up to 7 slots, telling ones and others."""
    found = [[0], [1], [MOST], [0, 0], [1, 0], [2, 2], [1, 1, 1], [0, 1, 2], [1, 0, 1, 0], [1, 1, 0, 1], [1, 2, 4, 8]]
    found += [[1, 1, 0, 0], [1, 1, 1, 0, 0, 0], [1, 1, 0, 1, 0, 0, 0], [0] * 5, [MOST, 0, MOST, 1], [3, 3, 1, 3, 3, 1]]
    for slots in (2, 3, 5, 6, 7):
        found += some_discs(2, slots, 1) + some_discs(2, slots, 3) + some_discs(1, slots, MOST)
    return found


class FitsTest(unittest.TestCase):
    def check(self, disc, looks):
        fits = plain_fits(disc, looks)
        with self.subTest(disc=disc, looks=looks):
            self.assertEqual(fits_count(disc, looks), len(fits))
            self.assertEqual([nth_fit(disc, looks, index) for index in range(len(fits))], fits)
            for index in (-1, len(fits), 10 ** 50):
                with self.assertRaises(InvalidNumber):
                    nth_fit(disc, looks, index)
        return len(fits)

    def test_search(self):
        source = random.Random("fits")
        counts = []
        for disc in small_discs():
            for looks in looks_beside(disc, source):
                counts.append(self.check(disc, looks))
        # Such with which nothing, just one, and several fit are among them.
        self.assertGreater(min(counts.count(0), counts.count(1), len([many for many in counts if many > 2])), 10)

    def test_one_look(self):
        for disc in ([1, 1, 0, 1], [2, 1, 0], [0, 3, 3, 1], [1, 0, 1, 0]):
            for turn in range(-1, 5):
                for light in range(8):
                    self.check(disc, [(turn, light)])

    def test_two_looks(self):
        for disc in ([1, 1, 0, 1], [2, 1, 0], [1, 0, 1, 0]):
            for one, two in itertools.product(itertools.product(range(3), range(4)), repeat=2):
                self.check(disc, [one, two])

    def test_the_same_turn_twice(self):
        disc = [1, 1, 0, 1]
        self.assertEqual(fits_count(disc, [(0, 2), (0, 2)]), 6)
        self.assertEqual(fits_count(disc, [(0, 2), (4, 2), (-4 * MANY, 2)]), 6)
        self.assertEqual(fits_count(disc, [(0, 2), (0, 3)]), 0)
        self.assertEqual(fits_count(disc, [(0, 2), (4, 3)]), 0)
        self.assertEqual(fits_count(disc, [(0, 2)] * 40), 6)
        self.assertEqual(nth_fit(disc, [(0, 2)] * 20 + [(5, 3)] * 20, 0), [1, 0, 1, 1])

    def test_twelve_slots(self):
        source = random.Random("twelve")
        for disc in some_discs(2, 12, 1) + some_discs(2, 12, 5) + some_discs(1, 12, MOST) + [[0] * 12, [1, 0, 2] * 4]:
            other = [source.randint(0, 1) for _ in range(12)]
            for many in (0, 1, 3, 40):
                turns = [source.randrange(-MANY, MANY) for _ in range(many)]
                looks = [(turn, light_at(disc, other, turn)) for turn in turns]
                fits = plain_fits(disc, looks)
                with self.subTest(disc=disc, looks=looks):
                    self.assertEqual(fits_count(disc, looks), len(fits))
                    for index in (0, len(fits) // 3, fits.index(other), len(fits) - 1):
                        self.assertEqual(nth_fit(disc, looks, index), fits[index])
                    self.assertIsNone(clash_index(disc, looks))
                    self.assertEqual(clash_index(disc, looks[:39] + [(0, MOST * 13)]), min(many, 39))

    def test_edges(self):
        self.assertEqual([fits_count([5], looks) for looks in ([], [(0, 5)], [(7, 0)], [(0, 1)])], [2, 1, 1, 0])
        self.assertEqual(nth_fit([5], [(0, 5)], 0), [1])
        self.assertEqual([fits_count([0], looks) for looks in ([], [(0, 0)], [(0, 1)])], [2, 2, 0])
        self.assertEqual([fits_count([0] * 12, [(3, light)]) for light in (0, 1)], [4096, 0])
        self.assertEqual(fits_count([1] * 12, [(-5, 6)]), 924)
        self.assertEqual(nth_fit([1] * 12, [(-5, 6)], 0), [0] * 6 + [1] * 6)
        self.assertEqual(nth_fit([1] * 12, [(-5, 6)], 923), [1] * 6 + [0] * 6)
        self.assertEqual(nth_fit([MOST] * 12, [(1, 12 * MOST)], 0), [1] * 12)
        self.assertEqual(fits_count([MOST] * 12, [(1, 12 * MOST - 1)]), 0)
        self.assertEqual([nth_fit([0] * 12, [], index) for index in (0, 1, 4095)], [[0] * 12, [0] * 11 + [1], [1] * 12])

    def test_telling_discs_leave_one(self):
        for disc in small_discs():
            for other in all_slotted(len(disc))[::3]:
                fits = fits_count(disc, list(enumerate(plain_lights(disc, other))))
                if is_telling(disc):
                    self.assertEqual(fits, 1)
                else:
                    self.assertGreaterEqual(fits, 1)
        self.assertEqual(fits_count([1, 0, 1, 0], list(enumerate([1, 1, 1, 1]))), 4)


class SureSlotsTest(unittest.TestCase):
    def test_search(self):
        source = random.Random("sure")
        found = []
        for disc in small_discs():
            for looks in looks_beside(disc, source):
                fits = plain_fits(disc, looks)
                with self.subTest(disc=disc, looks=looks):
                    if not fits:
                        with self.assertRaises(Impossible):
                            sure_slots(disc, looks)
                        continue
                    slots = range(len(disc))
                    wanted = [(slot, fits[0][slot]) for slot in slots if len({other[slot] for other in fits}) == 1]
                    self.assertEqual(sure_slots(disc, looks), wanted)
                    found.append(len(wanted))
        self.assertGreater(len(set(found)), 5)

    def test_edges(self):
        self.assertEqual(sure_slots([5], []), [])
        self.assertEqual(sure_slots([5], [(0, 5)]), [(0, 1)])
        self.assertEqual(sure_slots([0], [(0, 0)] * 40), [])
        self.assertEqual(sure_slots([0] * 12, []), [])
        self.assertEqual(sure_slots([1] * 12, [(7, 12)]), [(slot, 1) for slot in range(12)])
        self.assertEqual(sure_slots([1] * 12, [(7, 0)]), [(slot, 0) for slot in range(12)])
        # Turned by 2, the slot 1 of the unknown disc is over the slot 3.
        self.assertEqual(sure_slots([0, 0, 0, 9, 0], [(2, 9)]), [(1, 1)])
        self.assertEqual(sure_slots([0, 0, 0, 9, 0], [(2, 0)]), [(1, 0)])


class ClashTest(unittest.TestCase):
    def test_search(self):
        source = random.Random("clash")
        found = []
        for disc in small_discs():
            for looks in looks_beside(disc, source):
                empty = [many for many in range(1, len(looks) + 1) if not plain_fits(disc, looks[:many])]
                wanted = empty[0] - 1 if empty else None
                with self.subTest(disc=disc, looks=looks):
                    self.assertEqual(clash_index(disc, looks), wanted)
                found.append(wanted)
        self.assertGreater(len(set(found)), 4)

    def test_edges(self):
        self.assertIsNone(clash_index([5], []))
        self.assertIsNone(clash_index([0] * 12, [(turn, 0) for turn in range(40)]))
        self.assertEqual(clash_index([0] * 12, [(turn, 0) for turn in range(39)] + [(3, 1)]), 39)
        self.assertEqual(clash_index([1, 1, 0, 1], [(0, 2), (4, 2), (8, 3), (0, 7)]), 2)
        self.assertEqual(clash_index([1, 1, 0, 1], [(0, 10 ** 60)]), 0)


class TellingTurnsTest(unittest.TestCase):
    def check(self, disc, looks):
        with self.subTest(disc=disc, looks=looks):
            if not plain_fits(disc, looks):
                with self.assertRaises(Impossible):
                    telling_turns(disc, looks)
                return "nothing"
            turns = telling_turns(disc, looks)
            self.assertEqual(turns, plain_telling(disc, looks))
            return None if turns is None else len(turns)

    def test_search(self):
        source = random.Random("telling")
        found = []
        for disc in small_discs():
            for looks in looks_beside(disc, source):
                found.append(self.check(disc, looks))
        for kind in ("nothing", None, 0, 1, 2, 3):
            self.assertIn(kind, found)

    def test_all_slotted_discs_without_looks(self):
        for slots in range(1, 6):
            for disc in all_slotted(slots):
                self.check(disc, [])

    def test_one_look(self):
        for disc in ([1, 1, 0, 1], [1, 2, 0, 0], [1, 0, 1, 0], [1, 1, 0, 0, 0], [2, 1, 1]):
            for turn in range(len(disc)):
                for light in range(6):
                    self.check(disc, [(turn, light)])

    def test_eight_slots(self):
        source = random.Random("eight")
        for disc in ([1, 1, 0, 1, 0, 0, 0, 1], [1, 2, 4, 8, 16, 32, 64, 128], [3, 1, 4, 1, 5, 9, 2, 6], [1, 0] * 4):
            for looks in looks_beside(disc, source)[:4]:
                self.check(disc, looks)

    def test_edges(self):
        # One turn is enough if no two sums are alike; then the least turn tells as much as any other.
        self.assertEqual(telling_turns([2 ** slot for slot in range(8)], []), [0])
        # With a single light each turn tells a slot of its own.
        self.assertEqual(telling_turns([0] * 7 + [MOST], []), list(range(8)))
        self.assertEqual(telling_turns([5], []), [0])
        self.assertEqual(telling_turns([5], [(0, 5)]), [])
        self.assertIsNone(telling_turns([0], []))
        self.assertIsNone(telling_turns([0] * 8, []))
        self.assertIsNone(telling_turns([1, 0, 1, 0], []))
        self.assertEqual(telling_turns([1, 0, 1, 0], [(0, 2), (1, 0)]), [])
        self.assertEqual(telling_turns([1, 0, 1, 0], [(0, 0), (1, 2)] * 20), [])
        with self.assertRaises(Impossible):
            telling_turns([0], [(0, 1)])

    def test_the_turns_tell_the_rest(self):
        for disc in some_discs(4, 8, 2):
            turns = telling_turns(disc, [(1, 3)]) if fits_count(disc, [(1, 3)]) else None
            if turns is not None:
                for other in plain_fits(disc, [(1, 3)])[::5]:
                    looks = [(1, 3)] + [(turn, light_at(disc, other, turn)) for turn in turns]
                    self.assertEqual(fits_count(disc, looks), 1)
                    self.assertEqual(nth_fit(disc, looks, 0), other)
