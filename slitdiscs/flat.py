"""Flat discs: those with the same own light at all turns but 0."""

from itertools import combinations
from math import gcd

from slitdiscs.around import lights_between, multiplied_list
from slitdiscs.checks import check_choice, check_disc
from slitdiscs.discs import turn_between
from slitdiscs.openings import opened_forms, opened_lights


def is_flat(disc):
    """Return whether the own lights of a disc are equal at all turns but 0."""
    check_disc(disc)
    return _are_flat(lights_between(disc, disc))


def flat_discs(slots, many):
    """Return the like forms of all flat slotted discs with so many open slots, ascending."""
    check_choice(slots, many)
    # Like discs have the same own lights, so the form of each flat disc is itself among them.
    flat = [opened for opened in combinations(range(slots), many) if _are_flat(opened_lights(opened, slots))]
    return opened_forms(flat, slots)


def flat_turns(disc):
    """Return the factors by which the disc, multiplied, is itself turned, ascending."""
    check_disc(disc)
    slots = len(disc)
    # The factor 1 counts for one slot, too.
    factors = [factor for factor in range(1, max(slots, 2)) if gcd(factor, slots) == 1]
    return [factor for factor in factors if turn_between(disc, multiplied_list(disc, factor)) is not None]


def _are_flat(lights):
    return len(set(lights[1:])) <= 1
