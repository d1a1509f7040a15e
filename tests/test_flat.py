"""[9], [19]: flat discs, all of them listed, and the factors that turn a disc."""

import functools
import itertools
import unittest
from math import gcd

from slitdiscs.discs import turned_disc
from slitdiscs.flat import flat_discs, flat_turns, is_flat
from slitdiscs.laid import multiplied_disc, shut_disc
from tests.plain import all_slotted, plain_forms, plain_lights
from tests.samples import MOST, some_discs

# The open slots of flat discs: differences that come equally often.
FLAT = [(7, [0, 1, 3]), (13, [0, 1, 3, 9]), (11, [1, 3, 4, 5, 9]), (37, sorted({x ** 4 % 37 for x in range(1, 37)}))]


def opened(slots, open_slots):
    return [int(slot in open_slots) for slot in range(slots)]


@functools.lru_cache(None)
def flat_by_many(slots):
    """For each number of open slots the forms of all flat slotted discs, ascending: a search through all discs."""
    found = {many: [] for many in range(slots + 1)}
    everywhere = (1 << slots) - 1
    for number in range(1 << slots):
        # The slots are the binary digits of the number, and so turned ones are, too.
        turned = [(number << turn | number >> (slots - turn)) & everywhere for turn in range(1, slots)]
        if len({(number & other).bit_count() for other in turned}) <= 1:
            disc = [int(digit) for digit in f"{number:0{slots}b}"]
            if disc == min(plain_forms(disc)):
                found[sum(disc)].append(disc)
    return found


class IsFlatTest(unittest.TestCase):
    def test_as_defined(self):
        found = [list(items) for slots in (1, 2, 3, 4) for items in itertools.product(range(3), repeat=slots)]
        found += [disc for slots in (5, 6, 7) for disc in all_slotted(slots)]
        found += [disc for slots in (12, 39, 40) for disc in some_discs(3, slots, 1) + some_discs(2, slots, MOST)]
        flat = 0
        for disc in found:
            with self.subTest(disc=disc):
                wanted = len(set(plain_lights(disc, disc)[1:])) <= 1
                self.assertIs(is_flat(disc), wanted)
                flat += wanted
        self.assertGreater(flat, 50)

    def test_one_or_two_slots(self):
        for disc in ([0], [1], [MOST], [0, 0], [0, 1], [MOST, 3], [MOST, MOST]):
            self.assertIs(is_flat(disc), True)

    def test_flat_discs_of_many_slots(self):
        for slots, open_slots in FLAT:
            disc = opened(slots, open_slots)
            for other in (disc, turned_disc(disc, 5), shut_disc(disc), [MOST * item for item in disc]):
                self.assertIs(is_flat(other), True)
            # More light at all slots leaves it flat; two slots exchanged do not.
            self.assertIs(is_flat([7 * item + 3 for item in disc]), True)
            self.assertIs(is_flat([disc[-1]] + disc[1:-1] + [disc[0]]), disc[0] == disc[-1])
        self.assertIs(is_flat([5] + opened(*FLAT[2])[1:]), True)
        self.assertIs(is_flat([5] + opened(*FLAT[1])[1:]), False)

    def test_edges(self):
        self.assertIs(is_flat([0] * 40), True)
        self.assertIs(is_flat([MOST] * 40), True)
        self.assertIs(is_flat([0] * 39 + [MOST]), True)
        self.assertIs(is_flat([MOST] * 39 + [0]), True)
        self.assertIs(is_flat([MOST] * 38 + [0] * 2), False)
        self.assertIs(is_flat([0, 1] * 20), False)


class FlatDiscsTest(unittest.TestCase):
    def test_all_numbers_of_slots(self):
        for slots in range(1, 15):
            for many in range(slots + 1):
                with self.subTest(slots=slots, many=many):
                    self.assertEqual(flat_discs(slots, many), flat_by_many(slots)[many])

    def test_edges(self):
        self.assertEqual(flat_discs(1, 0), [[0]])
        self.assertEqual(flat_discs(1, 1), [[1]])
        self.assertEqual(flat_discs(2, 1), [[0, 1]])
        for slots in range(2, 15):
            self.assertEqual(flat_discs(slots, 0), [[0] * slots])
            self.assertEqual(flat_discs(slots, 1), [[0] * (slots - 1) + [1]])
            self.assertEqual(flat_discs(slots, slots - 1), [[0] + [1] * (slots - 1)])
            self.assertEqual(flat_discs(slots, slots), [[1] * slots])
        self.assertEqual(flat_discs(14, 7), [])

    def test_they_are_flat(self):
        for slots, many in ((13, 4), (13, 9), (11, 5), (11, 6), (7, 3)):
            found = flat_discs(slots, many)
            self.assertGreater(len(found), 0)
            for disc in found:
                self.assertIs(is_flat(disc), True)
                self.assertEqual(sum(disc), many)


class FlatTurnsTest(unittest.TestCase):
    def plain_turns(self, disc):
        size = len(disc)
        turned = [turned_disc(disc, turn) for turn in range(size)]
        factors = [factor for factor in range(1, size) if gcd(factor, size) == 1]
        return [factor for factor in factors if multiplied_disc(disc, factor) in turned]

    def test_as_defined(self):
        found = [disc for slots in (2, 3, 4, 5, 6, 7, 8, 9) for disc in all_slotted(slots)]
        found += [disc for slots in (12, 15, 37, 40) for disc in some_discs(2, slots, 1) + some_discs(1, slots, MOST)]
        found += [opened(slots, open_slots) for slots, open_slots in FLAT]
        for disc in found:
            with self.subTest(disc=disc):
                self.assertEqual(flat_turns(disc), self.plain_turns(disc))
                self.assertEqual(flat_turns(turned_disc(disc, 3)), flat_turns(disc))

    def test_factors_of_flat_discs(self):
        for slots, open_slots in FLAT:
            disc = opened(slots, open_slots)
            for factor in flat_turns(disc):
                self.assertIn(multiplied_disc(disc, factor), plain_forms(disc))
        self.assertEqual(flat_turns(opened(*FLAT[1])), [1, 3, 9])
        self.assertEqual(flat_turns(opened(*FLAT[2])), [1, 3, 4, 5, 9])
        # The fourth powers themselves, and no mirror among them.
        self.assertEqual(flat_turns(opened(*FLAT[3])), FLAT[3][1])

    def test_edges(self):
        for disc in ([0], [1], [MOST], [0, 0], [5, 7]):
            self.assertEqual(flat_turns(disc), [1])
        self.assertEqual(flat_turns([MOST] * 40), [factor for factor in range(40) if gcd(factor, 40) == 1])
        self.assertEqual(flat_turns([0] * 37), list(range(1, 37)))
        self.assertEqual(flat_turns(list(range(40))), [1])
        self.assertEqual(flat_turns([0, 1, 1, 0, 0]), [1, 4])
        self.assertEqual(flat_turns([0, 1, 2]), [1])
