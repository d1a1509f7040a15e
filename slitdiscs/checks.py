"""Checks of arguments: each raises the error that the document lists for the argument."""

from slitdiscs.errors import InvalidDisc, InvalidNumber, InvalidRow, InvalidTurn

MOST_SLOTS = 40
MOST_LIGHT = 10 ** 30


def is_integer(value):
    """Return whether any value is an integer; True and False are none here."""
    return isinstance(value, int) and not isinstance(value, bool)


def has_slots(value):
    """Return whether any value is a list of as many items as a disc may have."""
    return isinstance(value, list) and 1 <= len(value) <= MOST_SLOTS


def wrong_slot(items):
    """Return the index of the first item that no slot of a disc can have, None if there is none."""
    for index, item in enumerate(items):
        if not is_integer(item) or not 0 <= item <= MOST_LIGHT:
            return index
    return None


def check_disc(disc):
    """Raise InvalidDisc unless the value is a disc."""
    if not has_slots(disc):
        raise InvalidDisc(None)
    index = wrong_slot(disc)
    if index is not None:
        raise InvalidDisc(index)


def check_discs(disc, other):
    """Raise InvalidDisc unless both values are discs, with as many slots."""
    check_disc(disc)
    check_disc(other)
    if len(other) != len(disc):
        raise InvalidDisc(None)


def check_row(row, slots):
    """Raise InvalidRow unless the value is a row of so many items."""
    if not isinstance(row, list) or len(row) != slots:
        raise InvalidRow(None)
    for index, item in enumerate(row):
        if not is_integer(item):
            raise InvalidRow(index)


def check_turn(turn):
    """Raise InvalidTurn unless the value is an integer."""
    if not is_integer(turn):
        raise InvalidTurn("a turn is an integer")


def check_number(number):
    """Raise InvalidNumber unless the value is an integer."""
    if not is_integer(number):
        raise InvalidNumber("the number is an integer")


def check_count(number):
    """Raise InvalidNumber unless the value is an integer from 0 on."""
    check_number(number)
    if number < 0:
        raise InvalidNumber("the number is an integer from 0 on")
