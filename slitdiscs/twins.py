"""Own lights: those of a disc with itself, and the slotted discs that have the same ones."""

from itertools import combinations
from math import comb, gcd

from slitdiscs.around import lights_between
from slitdiscs.checks import (
    MOST_LISTED, check_choice, check_disc, check_discs, check_own_lights, check_slots_at_most, check_slotted,
)
from slitdiscs.discs import are_like
from slitdiscs.openings import opened_forms, opened_lights


def own_lights(disc):
    """Return the lights of a disc with itself."""
    check_disc(disc)
    return lights_between(disc, disc)


def are_twins(disc, other):
    """Return whether two discs have the same own lights and are not like."""
    check_discs(disc, other)
    return lights_between(disc, disc) == lights_between(other, other) and not are_like(disc, other)


def twin_discs(disc):
    """Return the like forms of all slotted discs with the own lights of a slotted one, ascending."""
    check_slotted(disc)
    check_slots_at_most(disc, MOST_LISTED)
    return _forms_with(lights_between(disc, disc))


def disc_with(lights):
    """Return the least slotted disc with these own lights, or None."""
    check_own_lights(lights)
    forms = _forms_with(lights)
    return forms[0] if forms else None


def twin_count(slots, many):
    """Return how many unlike own lights the slotted discs with so many open slots have."""
    check_choice(slots, many)
    return len({tuple(opened_lights(opened, slots)) for opened in combinations(range(slots), many)})


def form_count(slots, many):
    """Return how many like forms the slotted discs with so many open slots have."""
    check_choice(slots, many)
    # Burnside's way: each form counts once if the discs that a turn leaves as they are, and
    # those that a mirror with a turn does, are counted for all turns.
    left = [_turned_alike(slots, many, turn) + _mirrored_alike(slots, many, turn) for turn in range(slots)]
    return sum(left) // (2 * slots)


def _forms_with(lights):
    if lights[0] > len(lights):
        return []
    # Like discs have the same own lights, so the form of each disc is itself among them.
    return opened_forms(_openings(lights, lights[0]), len(lights))


def _openings(lights, many):
    slots = len(lights)
    return [opened for opened in combinations(range(slots), many) if opened_lights(opened, slots) == lights]


def _turned_alike(slots, many, turn):
    # The slots that follow one another by the turn are all open or all shut.
    rounds = gcd(slots, turn)
    length = slots // rounds
    return comb(rounds, many // length) if many % length == 0 else 0


def _mirrored_alike(slots, many, turn):
    # The mirror takes the slot i to turn - i: a slot stays alone or changes with one other.
    alone = len([slot for slot in range(slots) if (2 * slot - turn) % slots == 0])
    pairs = (slots - alone) // 2
    singles = [single for single in range(min(alone, many) + 1) if (many - single) % 2 == 0]
    return sum([comb(alone, single) * comb(pairs, (many - single) // 2) for single in singles])
