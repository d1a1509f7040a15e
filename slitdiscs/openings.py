"""Slotted discs by their openings: the tuples of their open slots, without any checks."""

from slitdiscs.discs import like_form


def opened_lights(opened, slots):
    """Return the own lights of the disc of so many slots with these open ones."""
    # Two open slots are over one another at the turn that leads from one to the other.
    # An index below 0 counts from the end of the list, just as a turn below 0 does.
    lights = [0] * slots
    for first in opened:
        for second in opened:
            lights[first - second] += 1
    return lights


def opened_forms(openings, slots):
    """Return the like forms among the discs of so many slots with these openings, ascending."""
    discs = [_opened_disc(opened, slots) for opened in openings]
    return sorted([disc for disc in discs if like_form(disc) == disc])


def _opened_disc(opened, slots):
    return [1 if slot in opened else 0 for slot in range(slots)]
