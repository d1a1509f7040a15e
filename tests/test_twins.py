"""[9], [16], [17]: own lights, twins, and the slotted discs with the same own lights."""

import functools
import unittest

from slitdiscs.twins import are_twins, disc_with, form_count, own_lights, twin_count, twin_discs
from tests.plain import all_slotted, plain_forms, plain_lights
from tests.samples import MOST, some_discs

TWINS = ([1, 1, 0, 1, 1, 0, 0, 0], [1, 1, 1, 0, 0, 1, 0, 0])


@functools.lru_cache(None)
def forms_by_lights(slots):
    """A dict of tuples: for each list of own lights the forms of all slotted discs that have it, ascending."""
    found = {}
    for disc in all_slotted(slots):
        # The first disc of those that are like it comes first: the list is ascending.
        if min(plain_forms(disc)) == disc:
            found.setdefault(tuple(plain_lights(disc, disc)), []).append(disc)
    return found


class OwnLightsTest(unittest.TestCase):
    def test_as_defined(self):
        found = all_slotted(5) + [[0] * 40, [MOST] * 40, [7], [0], [3, 1] * 20]
        for slots in (1, 2, 3, 7, 12, 37, 40):
            found += some_discs(3, slots, 5) + some_discs(1, slots, MOST)
        for disc in found:
            with self.subTest(disc=disc):
                self.assertEqual(own_lights(disc), plain_lights(disc, disc))
        self.assertEqual(own_lights([MOST]), [MOST * MOST])


class AreTwinsTest(unittest.TestCase):
    def test_all_pairs_of_small_discs(self):
        for slots in (1, 2, 3, 4, 5, 6):
            found = all_slotted(slots)
            lights = [plain_lights(disc, disc) for disc in found]
            forms = [min(plain_forms(disc)) for disc in found]
            for one in range(0, len(found), 3):
                for two in range(len(found)):
                    wanted = lights[one] == lights[two] and forms[one] != forms[two]
                    self.assertIs(are_twins(found[one], found[two]), wanted)

    def test_twins(self):
        for one in plain_forms(TWINS[0]):
            for two in plain_forms(TWINS[1]):
                self.assertIs(are_twins(one, two), True)
                self.assertIs(are_twins(two, one), True)
            self.assertIs(are_twins(one, TWINS[0]), False)

    def test_twins_with_other_lights(self):
        # More light at all slots, or that many times as much, makes other twins of them.
        for factor, more in ((1, 5), (7, 0), (MOST - 3, 3), (10 ** 20, 10 ** 25)):
            one, two = ([factor * light + more for light in disc] for disc in TWINS)
            self.assertIs(are_twins(one, two), True)
            two[0] -= 1
            self.assertIs(are_twins(one, two), False)

    def test_many_slots(self):
        # Shut slots between the slots of twins leave them twins.
        one, two = ([light for item in disc for light in (item, 0, 0, 0, 0)] for disc in TWINS)
        self.assertEqual(len(one), 40)
        self.assertIs(are_twins(one, two), True)
        self.assertIs(are_twins(one, one[7:] + one[:7]), False)
        self.assertIs(are_twins(one, [0] * 40), False)
        self.assertIs(are_twins([MOST] * 40, [MOST] * 40), False)

    def test_own_lights_alone_do_not_make_twins(self):
        self.assertIs(are_twins([1, 2, 3], [3, 2, 1]), False)
        self.assertIs(are_twins([0], [0]), False)
        self.assertIs(are_twins([1, 0], [0, 1]), False)
        self.assertIs(are_twins([1, 0], [1, 1]), False)


class TwinDiscsTest(unittest.TestCase):
    def test_all_small_discs(self):
        for slots in range(1, 10):
            found = forms_by_lights(slots)
            for disc in all_slotted(slots):
                with self.subTest(disc=disc):
                    self.assertEqual(twin_discs(disc), found[tuple(plain_lights(disc, disc))])

    def test_twelve_slots(self):
        most = max(len(forms) for forms in forms_by_lights(12).values())
        self.assertGreater(most, 1)
        for lights, forms in forms_by_lights(12).items():
            if len(forms) > 1:
                with self.subTest(lights=lights):
                    for disc in forms:
                        self.assertEqual(twin_discs(plain_forms(disc)[5]), forms)

    def test_fourteen_slots(self):
        for disc in ([0] * 14, [1] * 14, [0] * 13 + [1], [0] + [1] * 13, [1, 0] * 7, [0] * 7 + [1] * 7):
            self.assertEqual(twin_discs(disc), [min(plain_forms(disc))])
        disc = [1, 1, 0, 1, 0, 0, 0] * 2
        disc[3], disc[2] = disc[2], disc[3]
        lights = plain_lights(disc, disc)
        wanted = [other for other in all_slotted(14) if sum(other) == sum(disc) and plain_lights(other, other) == lights]
        self.assertEqual(twin_discs(disc), [other for other in wanted if min(plain_forms(other)) == other])

    def test_own_form_is_among_them(self):
        for slots in (10, 11, 13, 14):
            for disc in some_discs(4, slots, 1):
                forms = twin_discs(disc)
                self.assertIn(min(plain_forms(disc)), forms)
                self.assertEqual(forms, sorted(forms))
                for form in forms:
                    self.assertEqual(plain_lights(form, form), plain_lights(disc, disc))
                    self.assertEqual(min(plain_forms(form)), form)


class DiscWithTest(unittest.TestCase):
    def test_all_small_discs(self):
        for slots in range(1, 10):
            found = {}
            for disc in all_slotted(slots):
                found.setdefault(tuple(plain_lights(disc, disc)), disc)
            for lights, disc in found.items():
                with self.subTest(lights=lights):
                    self.assertEqual(disc_with(list(lights)), disc)

    def test_lights_of_no_disc(self):
        for lights in forms_by_lights(7):
            for at in range(7):
                for more in (1, -1, 10 ** 40):
                    other = list(lights)
                    other[at] += more
                    if min(other) >= 0 and tuple(other) not in forms_by_lights(7):
                        self.assertIsNone(disc_with(other))

    def test_edges(self):
        self.assertEqual(disc_with([0]), [0])
        self.assertEqual(disc_with([1]), [1])
        self.assertIsNone(disc_with([2]))
        self.assertIsNone(disc_with([10 ** 50]))
        self.assertIsNone(disc_with([10 ** 50] * 14))
        self.assertIsNone(disc_with([0, 1]))
        self.assertEqual(disc_with([0] * 14), [0] * 14)
        self.assertEqual(disc_with([14] * 14), [1] * 14)
        self.assertIsNone(disc_with([14] * 13 + [13]))
        self.assertIsNone(disc_with([15] * 14))
        self.assertEqual(disc_with([13] + [12] * 13), [0] + [1] * 13)
        self.assertEqual(disc_with([1] + [0] * 13), [0] * 13 + [1])
        self.assertEqual(disc_with([7, 0] * 7), [0, 1] * 7)
        self.assertIsNone(disc_with([7, 1] + [3] * 12))

    def test_fourteen_slots(self):
        for disc in some_discs(6, 14, 1):
            lights = plain_lights(disc, disc)
            least = disc_with(lights)
            self.assertEqual(plain_lights(least, least), lights)
            self.assertEqual(least, twin_discs(disc)[0])


class CountTest(unittest.TestCase):
    def test_all_small_discs(self):
        for slots in range(1, 13):
            found = forms_by_lights(slots)
            for many in range(slots + 1):
                forms = [form for kept in found.values() for form in kept if sum(form) == many]
                lights = [kept for kept in found.values() if sum(kept[0]) == many]
                with self.subTest(slots=slots, many=many):
                    self.assertEqual(form_count(slots, many), len(forms))
                    self.assertEqual(twin_count(slots, many), len(lights))

    def test_fourteen_slots(self):
        # As many as with open and shut slots exchanged.
        for many in range(15):
            self.assertEqual(form_count(14, many), form_count(14, 14 - many))
            self.assertEqual(twin_count(14, many), twin_count(14, 14 - many))
            self.assertLessEqual(twin_count(14, many), form_count(14, many))
        # Two open slots have a way of 1 to 7 between them.
        self.assertEqual([form_count(14, many) for many in (0, 1, 2, 14)], [1, 1, 7, 1])
        self.assertEqual([twin_count(14, many) for many in (0, 1, 2, 14)], [1, 1, 7, 1])

    def test_half_of_fourteen_slots(self):
        forms, lights = set(), set()
        for disc in all_slotted(14):
            if sum(disc) == 7:
                form = tuple(disc)
                if form not in forms:
                    like = plain_forms(disc)
                    if disc == min(like):
                        forms.add(form)
                        lights.add(tuple(plain_lights(disc, disc)))
        self.assertEqual(form_count(14, 7), len(forms))
        self.assertEqual(twin_count(14, 7), len(lights))
