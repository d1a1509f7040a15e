"""Checks of arguments: each raises the error that the document lists for the argument."""

from math import gcd

from slitdiscs.errors import (
    InvalidDisc, InvalidLights, InvalidLooks, InvalidNumber, InvalidRow, InvalidSlot, InvalidTurn,
)

MOST_SLOTS = 40
MOST_LIGHT = 10 ** 30
MOST_LOOKS = 40
# All slotted discs with more slots than this are too many to be listed.
MOST_LISTED = 14


def is_integer(value):
    """Return whether any value is an integer; True and False are none here."""
    return isinstance(value, int) and not isinstance(value, bool)


def has_slots(value):
    """Return whether any value is a list of as many items as a disc may have."""
    return isinstance(value, list) and 1 <= len(value) <= MOST_SLOTS


def wrong_integer(items):
    """Return the index of the first item that is no integer, None if there is none."""
    for index, item in enumerate(items):
        if not is_integer(item):
            return index
    return None


def wrong_light(items, most):
    """Return the index of the first item that is no integer from 0 to the most, None if there is none."""
    for index, item in enumerate(items):
        if not is_integer(item) or not 0 <= item <= most:
            return index
    return None


def wrong_slot(items):
    """Return the index of the first item that no slot of a disc can have, None if there is none."""
    return wrong_light(items, MOST_LIGHT)


def is_look(value):
    """Return whether any value is a tuple of a turn and a light from 0 on."""
    return isinstance(value, tuple) and len(value) == 2 and wrong_integer(value) is None and value[1] >= 0


def is_row(value, slots):
    """Return whether any value is a row of so many items."""
    return isinstance(value, list) and len(value) == slots and wrong_integer(value) is None


def check_disc(disc):
    """Raise InvalidDisc unless the value is a disc."""
    if not has_slots(disc):
        raise InvalidDisc(None)
    index = wrong_slot(disc)
    if index is not None:
        raise InvalidDisc(index)


def check_discs(disc, other):
    """Raise InvalidDisc unless both values are discs, with as many slots."""
    check_disc(disc)
    check_disc(other)
    if len(other) != len(disc):
        raise InvalidDisc(None)


def check_slots_at_most(disc, most):
    """Raise InvalidDisc if a disc has more slots than this."""
    if len(disc) > most:
        raise InvalidDisc(None)


def check_slotted(disc):
    """Raise InvalidDisc unless the value is a slotted disc."""
    if not has_slots(disc):
        raise InvalidDisc(None)
    index = wrong_light(disc, 1)
    if index is not None:
        raise InvalidDisc(index)


def check_row(row, slots):
    """Raise InvalidRow unless the value is a row of so many items."""
    if not isinstance(row, list) or len(row) != slots:
        raise InvalidRow(None)
    index = wrong_integer(row)
    if index is not None:
        raise InvalidRow(index)


def check_lights(lights, slots):
    """Raise InvalidLights unless the value is a list of so many integers."""
    check_so_many_lights(lights, slots, slots)


def check_so_many_lights(lights, least, most):
    """Raise InvalidLights unless the value is a list of integers, from the least number of them to the most."""
    if not isinstance(lights, list) or not least <= len(lights) <= most:
        raise InvalidLights(None)
    index = wrong_integer(lights)
    if index is not None:
        raise InvalidLights(index)


def check_own_lights(lights):
    """Raise InvalidLights unless the value is a list that own lights of a listed disc can be."""
    if not isinstance(lights, list) or not 1 <= len(lights) <= MOST_LISTED:
        raise InvalidLights(None)
    for index, item in enumerate(lights):
        if not is_integer(item) or item < 0:
            raise InvalidLights(index)


def check_looks(looks):
    """Raise InvalidLooks unless the value is a list of looks, not too many."""
    if not isinstance(looks, list) or len(looks) > MOST_LOOKS:
        raise InvalidLooks(None)
    for index, look in enumerate(looks):
        if not is_look(look):
            raise InvalidLooks(index)


def check_turn(turn):
    """Raise InvalidTurn unless the value is an integer."""
    if not is_integer(turn):
        raise InvalidTurn("a turn is an integer")


def check_slot(slot, slots):
    """Raise InvalidSlot unless a disc of so many slots has the value as a slot."""
    if not is_integer(slot) or not 0 <= slot < slots:
        raise InvalidSlot("a slot is an integer from 0 to the number of slots less 1")


def check_number(number):
    """Raise InvalidNumber unless the value is an integer."""
    if not is_integer(number):
        raise InvalidNumber("the number is an integer")


def check_count(number):
    """Raise InvalidNumber unless the value is an integer from 0 on."""
    check_number(number)
    if number < 0:
        raise InvalidNumber("the number is an integer from 0 on")


def check_between(number, least, most):
    """Raise InvalidNumber unless the value is an integer from the least one to the most."""
    if not is_integer(number) or not least <= number <= most:
        raise InvalidNumber(f"the number is an integer from {least} to {most}")


def check_factor(factor, slots):
    """Raise InvalidNumber unless a disc with so many slots can be multiplied by the value."""
    check_number(factor)
    if gcd(factor, slots) != 1:
        raise InvalidNumber("the factor has a divisor in common with the number of slots")


def check_choice(slots, many):
    """Raise InvalidNumber unless slotted discs with so many slots, so many of them open, are listed."""
    check_between(slots, 1, MOST_LISTED)
    check_between(many, 0, slots)
