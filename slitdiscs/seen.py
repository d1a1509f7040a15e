"""What is seen of an unknown slotted disc that is turned over a known one.

The slotted discs with n slots are numbered from 0 to 2 ** n - 1, ascending as lists: a disc
is the binary digits of its number, the highest one at the slot 0.
"""

from itertools import combinations

from slitdiscs.around import turned_list
from slitdiscs.checks import check_between, check_disc, check_looks, check_slots_at_most
from slitdiscs.errors import Impossible

MOST_SEEN = 12
MOST_TOLD = 8


def fits_count(disc, looks):
    """Return how many slotted discs fit the looks."""
    _check_seen(disc, looks, MOST_SEEN)
    return len(_fits(disc, looks))


def nth_fit(disc, looks, index):
    """Return the slotted disc with an index among all that fit, ascending."""
    _check_seen(disc, looks, MOST_SEEN)
    fits = _fits(disc, looks)
    check_between(index, 0, len(fits) - 1)
    return _numbered_disc(fits[index], len(disc))


def sure_slots(disc, looks):
    """Return the tuples (slot, item) that all fitting discs have, ascending."""
    _check_seen(disc, looks, MOST_SEEN)
    discs = [_numbered_disc(number, len(disc)) for number in _some_fits(disc, looks)]
    return [(slot, items[0]) for slot, items in enumerate(zip(*discs)) if min(items) == max(items)]


def clash_index(disc, looks):
    """Return the index of the first look with which nothing fits any more, or None."""
    _check_seen(disc, looks, MOST_SEEN)
    fits = _all_numbers(disc)
    for index, look in enumerate(looks):
        fits = _still_fitting(fits, disc, look)
        if not fits:
            return index
    return None


def telling_turns(disc, looks):
    """Return the least of the shortest lists of turns that tell all fitting discs apart, or None."""
    _check_seen(disc, looks, MOST_TOLD)
    fits = _some_fits(disc, looks)
    slots = len(disc)
    lights = [_numbered_lights(disc, turn) for turn in range(slots)]
    if not _are_unlike(fits, lights):
        return None
    for many in range(slots):
        # They come ascending, so the first one that is found is the least list.
        for turns in combinations(range(slots), many):
            if _are_unlike(fits, [lights[turn] for turn in turns]):
                return list(turns)
    return list(range(slots))


def _check_seen(disc, looks, most):
    check_disc(disc)
    check_slots_at_most(disc, most)
    check_looks(looks)


def _all_numbers(disc):
    return list(range(1 << len(disc)))


def _fits(disc, looks):
    fits = _all_numbers(disc)
    for look in looks:
        fits = _still_fitting(fits, disc, look)
    return fits


def _some_fits(disc, looks):
    fits = _fits(disc, looks)
    if not fits:
        raise Impossible("nothing fits the looks")
    return fits


def _still_fitting(fits, disc, look):
    turn, light = look
    lights = _numbered_lights(disc, turn)
    return [number for number in fits if lights[number] == light]


def _numbered_lights(disc, turn):
    # At the index of each number the light of its disc at the turn. From the last slot on,
    # a slot ahead of the others doubles the list: first it is shut, then open.
    lights = [0]
    for item in turned_list(disc, -turn)[::-1]:
        lights = lights + [light + item for light in lights]
    return lights


def _numbered_disc(number, slots):
    return [(number >> place) & 1 for place in range(slots - 1, -1, -1)]


def _are_unlike(fits, lights):
    # The lights are, for some turns, those of all numbers.
    return len({tuple([row[number] for row in lights]) for number in fits}) == len(fits)
