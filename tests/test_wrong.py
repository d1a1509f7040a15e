"""[3], [10] to [22], [27]: wrong arguments, alone and several at once, and what the error says."""

import copy
import itertools
import unittest

from slitdiscs.errors import Impossible, InvalidDisc, InvalidLights, InvalidLooks, InvalidNumber, InvalidRow
from slitdiscs.flat import flat_discs
from slitdiscs.laid import multiplied_disc, other_part, shut_disc
from slitdiscs.reading import first_row, lights_fault, read_row, reading_row
from slitdiscs.seen import clash_index, fits_count, nth_fit, sure_slots, telling_turns
from slitdiscs.sums import is_sure, read_sum
from slitdiscs.twins import form_count, twin_count
from tests.samples import FUNCTIONS, KINDS, SAME_SLOTS


def takes_same_slots(names):
    """Whether the second argument of a function is a disc with as many slots as the first one."""
    return any(kind in SAME_SLOTS for kind in names.values())


class WrongTest(unittest.TestCase):
    def check_raises(self, function, arguments, error, index):
        before = copy.copy(arguments)
        inner = [copy.copy(value) if isinstance(value, (list, dict)) else value for value in arguments]
        with self.subTest(function.__name__, arguments=arguments):
            with self.assertRaises(error) as caught:
                function(*arguments)
            self.assertIs(type(caught.exception), error)
            # Not all errors have a field.
            fields = [index for _ in vars(error(None))]
            self.assertEqual(repr(list(vars(caught.exception).values())), repr(fields))
            for value, old, content in zip(arguments, before, inner):
                self.assertIs(value, old)
                if isinstance(value, (list, dict)):
                    self.assertEqual(repr(value), repr(content))

    def right(self, kinds):
        return [copy.copy(KINDS[kind][0][0]) for kind in kinds]

    def test_each_argument_wrong_alone(self):
        for function, names in FUNCTIONS:
            kinds = list(names.values())
            for place, kind in enumerate(kinds):
                _, error, wrong = KINDS[kind]
                for value, index in wrong:
                    arguments = self.right(kinds)
                    arguments[place] = value
                    if place == 0 and takes_same_slots(names) and isinstance(value, list) and value:
                        # As many slots, so that the disc alone is wrong.
                        arguments[1] = [0] * len(value)
                    self.check_raises(function, arguments, error, index)

    def test_two_arguments_wrong(self):
        for function, names in FUNCTIONS:
            kinds = list(names.values())
            for first, second in itertools.combinations(range(len(kinds)), 2):
                _, error, wrong = KINDS[kinds[first]]
                for (value, index), (later, _) in itertools.product(wrong, KINDS[kinds[second]][2][::7]):
                    arguments = self.right(kinds)
                    arguments[first], arguments[second] = value, later
                    self.check_raises(function, arguments, error, index)

    def test_all_arguments_wrong(self):
        for function, names in FUNCTIONS:
            kinds = list(names.values())
            for first, kind in enumerate(kinds):
                if KINDS[kind][2]:
                    arguments = self.right(kinds[:first]) + [None for _ in kinds[first:]]
                    self.check_raises(function, arguments, KINDS[kind][1], None)

    def test_other_slots_are_told_before_the_turn(self):
        for function, names in FUNCTIONS:
            if takes_same_slots(names):
                arguments = [[1, 0, 1], [1, 0]] + ["x" for _ in list(names)[2:]]
                self.check_raises(function, arguments, InvalidDisc, None)

    def test_wrong_items_are_told_before_the_number_of_slots(self):
        for function, names in FUNCTIONS:
            if takes_same_slots(names):
                rest = self.right(list(names.values())[2:])
                self.check_raises(function, [[1, 0, 1], [1, -1]] + rest, InvalidDisc, 1)
                self.check_raises(function, [[1, 0, 1], [1, 0, 1, 0, None]] + rest, InvalidDisc, 4)

    def test_too_many_slots_are_told_before_the_lights(self):
        for lights in (None, [0] * 12, ["x"] * 13, [0] * 13):
            self.check_raises(first_row, [[1] + [0] * 12, lights], InvalidDisc, None)
        self.check_raises(first_row, [[1] + [0] * 11 + [-1], None], InvalidDisc, 12)

    def test_lights_and_rows_are_as_long_as_the_disc(self):
        for slots in (1, 2, 12):
            disc, short, long = [1] + [0] * (slots - 1), [0] * (slots - 1), [0] * (slots + 1)
            for wrong in (short, long):
                for function in (read_row, lights_fault, first_row):
                    self.check_raises(function, [disc, wrong], InvalidLights, None)
                self.check_raises(is_sure, [disc, wrong], InvalidRow, None)
                self.check_raises(read_sum, [disc, wrong, disc], InvalidLights, None)
                self.check_raises(read_sum, [disc, disc, wrong], InvalidRow, None)

    def test_slots_are_told_before_the_open_ones(self):
        for function in (twin_count, form_count, flat_discs):
            for slots, many in [(0, 0), (15, 2), (15, 15), (-1, -1), (14, 15), (1, 2), (4, -1), (14, None)]:
                self.check_raises(function, [slots, many], InvalidNumber, None)

    def test_impossible_comes_last(self):
        blind = [1, 0, 1, 0]
        self.check_raises(read_row, [blind, [5, 3, 5]], InvalidLights, None)
        self.check_raises(read_row, [blind, [5, 3, 5, "x"]], InvalidLights, 3)
        self.check_raises(read_row, [blind, [5, 3, 5, 3]], Impossible, None)
        self.check_raises(reading_row, [blind], Impossible, None)
        self.check_raises(reading_row, [blind + [None]], InvalidDisc, 4)
        self.check_raises(read_sum, [blind, [5, 3, 4, 3], [1, 0, True, 0]], InvalidRow, 2)
        self.check_raises(read_sum, [blind, [5, 3, 4], [1, 0, 0, 0]], InvalidLights, None)
        self.check_raises(read_sum, [blind, [5, 3, 5, 3], [1, 0, 0, 0]], Impossible, None)
        self.check_raises(read_sum, [blind, [5, 3, 4, 3], [1, 0, 1, 0]], Impossible, None)
        self.check_raises(read_sum, [blind, [5, 3, 4, 3], [1, 0, 0, 0]], Impossible, None)
        self.check_raises(other_part, [[1, 0, 0, -1], blind], InvalidDisc, 3)
        self.check_raises(other_part, [[1, 0, 0], blind], InvalidDisc, None)
        self.check_raises(other_part, [[1, 0, 0, 0], blind[:3] + [-1]], InvalidDisc, 3)
        self.check_raises(other_part, [[1, 0, 0, 0], blind], Impossible, None)
        self.check_raises(other_part, [[0, 0, 0, 0], [0, 0, 0, 0]], Impossible, None)

    def test_nothing_fits(self):
        disc, nothing = [1, 1, 0, 1], [(0, 4)]
        for function in (sure_slots, telling_turns):
            self.check_raises(function, [disc, nothing], Impossible, None)
            self.check_raises(function, [disc, nothing + [(0, -1)]], InvalidLooks, 1)
            self.check_raises(function, [disc + [-1], nothing], InvalidDisc, 4)
            self.check_raises(function, [[1] * 13, nothing], InvalidDisc, None)
            self.check_raises(function, [[0], [(0, 1)]], Impossible, None)
        for index in (0, 1, -1, None, "x"):
            self.check_raises(nth_fit, [disc, nothing, index], InvalidNumber, None)
        self.assertEqual(fits_count(disc, nothing), 0)
        self.assertEqual(clash_index(disc, nothing), 0)

    def test_index_beyond_the_fits(self):
        for looks, fits in (([], 16), ([(0, 2)], 6), ([(0, 2), (5, 3)], 1)):
            for index in (fits, fits + 1, -1, -fits, 10 ** 50):
                self.check_raises(nth_fit, [[1, 1, 0, 1], looks, index], InvalidNumber, None)
            self.assertEqual(len(nth_fit([1, 1, 0, 1], looks, fits - 1)), 4)

    def test_too_many_slots_are_told_before_the_looks(self):
        for looks in (None, [(0, 0)] * 41, [(0, -1)], []):
            for function in (fits_count, sure_slots, clash_index, telling_turns):
                self.check_raises(function, [[1] * 13, looks], InvalidDisc, None)
            self.check_raises(nth_fit, [[1] * 13, looks, None], InvalidDisc, None)
            self.check_raises(telling_turns, [[1] * 9, looks], InvalidDisc, None)
        self.check_raises(telling_turns, [[1] * 8 + [None], None], InvalidDisc, 8)
        self.check_raises(fits_count, [[1] * 12, [(0, 0), [0, 0]]], InvalidLooks, 1)
        self.check_raises(telling_turns, [[1] * 8, [(0, 0), (0, 0, 0)]], InvalidLooks, 1)

    def test_factors_with_a_common_divisor(self):
        for slots in (2, 3, 4, 6, 12, 35, 40):
            for factor in (0, slots, -slots, 10 ** 38 * slots, *range(-slots, 2 * slots)):
                if any(slots % d == 0 and factor % d == 0 for d in range(2, slots + 1)):
                    self.check_raises(multiplied_disc, [[1] * slots, factor], InvalidNumber, None)
        self.check_raises(multiplied_disc, [[1, -1], 2], InvalidDisc, 1)

    def test_what_is_not_slotted(self):
        self.check_raises(shut_disc, [[0, 1, 2, 3]], InvalidDisc, 2)
        self.check_raises(shut_disc, [[0, 1, True]], InvalidDisc, 2)
        self.check_raises(shut_disc, [[0] * 40 + [1]], InvalidDisc, None)
