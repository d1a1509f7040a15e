"""[1] to [4]: all parts together, and what one function returns passed to others."""

import random
import unittest

from slitdiscs.console import Console
from slitdiscs.discs import are_like, is_disc, is_slotted, like_form, mirrored_disc, turned_disc
from slitdiscs.errors import Impossible
from slitdiscs.flat import flat_discs, flat_turns, is_flat
from slitdiscs.hidden import blind_divisors, hidden_count, hidden_rows, is_hidden, is_telling
from slitdiscs.laid import laid_disc, multiplied_disc, other_part, shut_disc
from slitdiscs.lights import all_lights, light_at, light_sum, row_lights
from slitdiscs.live import LiveDiscs
from slitdiscs.reading import first_row, lights_fault, read_row, reading_row
from slitdiscs.rings import ring_light, ring_sum, tick_of
from slitdiscs.seen import clash_index, fits_count, nth_fit, sure_slots, telling_turns
from slitdiscs.sums import alike_lights, is_sure, read_sum, sure_rows
from slitdiscs.texts import format_disc, format_looks, format_row, parse_disc, parse_looks, parse_row
from slitdiscs.twins import are_twins, disc_with, form_count, own_lights, twin_count, twin_discs
from tests.plain import all_slotted, disc_with_blind, rows_in_steps
from tests.samples import MOST, some_discs


def kinds_of_discs():
    """Discs that tell and such that hide rows, of few and of many slots."""
    found = [disc for slots in range(1, 7) for disc in all_slotted(slots)]
    for slots in (8, 12, 14, 37, 40):
        found += some_discs(3, slots, 1) + some_discs(2, slots, MOST)
    found += [[0] * 40, [MOST] * 40, [1, 0] * 20, [MOST, 3, 0, 7] * 10, [1, 1, 0, 1, 0, 0, 0] * 5]
    return found + [disc_with_blind(40, [5, 40], [3, 10 ** 20]), disc_with_blind(36, [2, 12, 18], [1, 2])]


class GuaranteeTest(unittest.TestCase):
    def test_a_reading_row_or_a_hidden_row(self):
        for disc in kinds_of_discs():
            with self.subTest(disc=disc):
                hidden = hidden_rows(disc)
                self.assertIs(is_telling(disc), not hidden)
                self.assertEqual(len(hidden), hidden_count(disc))
                self.assertIs(bool(blind_divisors(disc)), bool(hidden))
                if hidden:
                    with self.assertRaises(Impossible):
                        reading_row(disc)
                    self.assertTrue(all(any(row) for row in hidden))
                else:
                    row, bottom = reading_row(disc)
                    self.assertEqual(read_row(disc, all_lights(disc, disc)), disc)
                    self.assertEqual(laid_disc(disc, [1] + [0] * (len(disc) - 1)), disc)
                    self.assertEqual(row_lights(disc, row), [bottom] + [0] * (len(disc) - 1))

    def test_hidden_rows_are_sums_of_multiples(self):
        source = random.Random("guarantee")
        for disc in kinds_of_discs():
            steps = hidden_rows(disc)
            total = [0] * len(disc)
            for row in steps:
                factor = source.randint(-10 ** 20, 10 ** 20)
                total = [item + factor * number for item, number in zip(total, row)]
            with self.subTest(disc=disc):
                self.assertIs(is_hidden(disc, total), True)
                self.assertEqual(rows_in_steps(steps + [total]), steps)
                self.assertIs(is_hidden(disc, [total[0] + 1] + total[1:]), not any(disc))
                # What is hidden is not seen by sums that are sure.
                for row in sure_rows(disc):
                    self.assertEqual(sum(one * two for one, two in zip(row, total)), 0)
                    self.assertIs(is_sure(disc, row), True)
                self.assertEqual(len(steps) + len(sure_rows(disc)), len(disc))

    def test_a_hidden_row_is_not_seen(self):
        for disc in kinds_of_discs():
            for row in hidden_rows(disc)[:3]:
                some = [slot * 7 - 3 for slot in range(len(disc))]
                more = [item + 5 * number for item, number in zip(some, row)]
                self.assertEqual(row_lights(disc, some), row_lights(disc, more))

    def test_listed_discs_are_complete(self):
        for slots in (5, 8):
            for disc in all_slotted(slots):
                forms = twin_discs(disc)
                self.assertIn(like_form(disc), forms)
                self.assertEqual(disc_with(own_lights(disc)), forms[0])
                self.assertEqual(len(forms) > 1, any(are_twins(disc, form) for form in forms))
            for many in range(slots + 1):
                found = [disc for disc in all_slotted(slots) if sum(disc) == many]
                self.assertEqual(form_count(slots, many), len({tuple(like_form(disc)) for disc in found}))
                self.assertEqual(twin_count(slots, many), len({tuple(own_lights(disc)) for disc in found}))
                flat = sorted({tuple(like_form(disc)) for disc in found if is_flat(disc)})
                self.assertEqual(flat_discs(slots, many), [list(form) for form in flat])


class TogetherTest(unittest.TestCase):
    def test_laid_and_read(self):
        for disc in kinds_of_discs():
            if is_telling(disc) and max(disc) <= 1:
                for other in some_discs(1, len(disc), 9):
                    laid = laid_disc(disc, other)
                    self.assertIs(is_disc(laid), True)
                    self.assertEqual(other_part(laid, disc), other)
                    self.assertEqual(laid, all_lights(disc, mirrored_disc(other)))
                    self.assertEqual(read_row(disc, laid), mirrored_disc(other))

    def test_flat_discs_have_turns_and_shut_ones_are_flat(self):
        for slots, many in ((7, 3), (11, 5), (13, 4)):
            for disc in flat_discs(slots, many):
                shut = shut_disc(disc)
                self.assertIs(is_flat(shut), True)
                self.assertIn(like_form(shut), flat_discs(slots, slots - many))
                for factor in flat_turns(disc):
                    self.assertIs(are_like(multiplied_disc(disc, factor), disc), True)
                self.assertIs(is_telling(disc), True)

    def test_looks_at_a_disc(self):
        for disc in ([1, 1, 0, 1, 0, 0, 0], [1, 2, 4, 8], [3, 1, 4, 1, 5, 9, 2, 6]):
            turns = telling_turns(disc, [])
            for other in all_slotted(len(disc))[::5]:
                looks = [(turn, light_at(disc, other, turn)) for turn in turns]
                looks = parse_looks(format_looks(looks))
                self.assertEqual(fits_count(disc, looks), 1)
                self.assertEqual(nth_fit(disc, looks, 0), other)
                self.assertEqual(sure_slots(disc, looks), list(enumerate(other)))
                self.assertIsNone(clash_index(disc, looks))
                self.assertEqual(first_row(disc, all_lights(disc, other)), other)

    def test_hidden_rows_keep_discs_apart_from_looks(self):
        disc = [1, 0, 1, 0]
        for other in all_slotted(4):
            lights = all_lights(disc, other)
            looks = list(enumerate(lights))
            alike = [nth_fit(disc, looks, index) for index in range(fits_count(disc, looks))]
            self.assertIn(other, alike)
            for one in alike:
                self.assertIs(is_hidden(disc, [a - b for a, b in zip(one, other)]), True)
            self.assertIsNone(lights_fault(disc, lights))
            for row in sure_rows(disc):
                self.assertEqual(read_sum(disc, lights, row), (sum(a * b for a, b in zip(row, other)), 1))

    def test_rings_of_as_many_slots(self):
        disc, other = some_discs(2, 12, 7)
        lights = [ring_light(disc, other, tick) for tick in range(12)]
        self.assertEqual(sum(lights), light_at(disc, other, 0))
        self.assertEqual(ring_sum(disc, turned_disc(other, 5), 3, 12), light_at(disc, other, 5))
        self.assertEqual(tick_of(disc, other, lights), 0)
        self.assertEqual(light_sum(disc, other, 0, 1, 12), sum(disc) * sum(other))

    def test_texts_of_what_is_returned(self):
        for disc in kinds_of_discs()[::3]:
            self.assertEqual(parse_disc(format_disc(disc)), disc)
            for row in hidden_rows(disc) + sure_rows(disc):
                self.assertEqual(parse_row(format_row(row)), row)
            if is_telling(disc):
                row, _ = reading_row(disc)
                self.assertEqual([int(word) for word in format_row(row).split(" ")], row)
        self.assertEqual(format_disc(parse_disc("1 0 5")), "1 0 5")

    def test_live_discs_of_what_is_returned(self):
        console = Console()
        for disc in kinds_of_discs()[::4]:
            live = LiveDiscs(disc, mirrored_disc(disc))
            live.turn_by(-3)
            self.assertEqual(live.light, light_at(live.disc, live.other, live.turn))
            self.assertEqual(live.light, all_lights(live.disc, live.other)[live.turn])
            self.assertEqual(LiveDiscs(live.disc, turned_disc(live.other, live.turn)).light, live.light)
            # Mirrored discs have the same blind divisors.
            self.assertIs(alike_lights(live.disc, live.other), True)
            console.execute(f"disc {format_disc(live.disc)}")
            console.execute(f"other {format_disc(live.other)}")
            console.execute("turn -3")
            self.assertEqual(console.execute("light"), str(live.light))
            self.assertIs(is_slotted(live.disc), max(disc) <= 1)
