"""Reading: the row behind its lights with a disc."""

from slitdiscs.around import lights_between
from slitdiscs.checks import check_disc, check_lights, check_slots_at_most
from slitdiscs.errors import Impossible
from slitdiscs.solving import fractions_with, reading_pair, whole_row
from slitdiscs.steps import blind_polynomials, first_unlike, hidden_steps

MOST_READ_FIRST = 12


def reading_row(disc):
    """Return the row that reads each other row from its lights, and the bottom, as a tuple."""
    check_disc(disc)
    _check_telling(disc)
    return reading_pair(disc)


def read_row(disc, lights):
    """Return the row of integers that has these lights with a telling disc, or None."""
    check_disc(disc)
    check_lights(lights, len(disc))
    _check_telling(disc)
    row, bottom = reading_pair(disc)
    return whole_row(lights_between(row, lights), bottom)


def lights_fault(disc, lights):
    """Return None if some row of fractions has these lights, otherwise a row that tells why not."""
    check_disc(disc)
    check_lights(lights, len(disc))
    # The sum of a hidden row with the lights of any row is 0, as the disc's light at a turn
    # with a slot is that at this slot with the turn.
    return first_unlike(hidden_steps(disc), lights)


def first_row(disc, lights):
    """Return the row of integers with these lights and the least numbers in front, or None."""
    check_disc(disc)
    check_slots_at_most(disc, MOST_READ_FIRST)
    check_lights(lights, len(disc))
    hidden = hidden_steps(disc)
    if first_unlike(hidden, lights) is not None:
        return None
    numbers, bottom = fractions_with(disc, hidden, lights)
    return whole_row(_without_first(numbers, hidden), bottom)


def _check_telling(disc):
    if blind_polynomials(disc):
        raise Impossible("a disc with a hidden row cannot be read")


def _without_first(numbers, hidden):
    # The first hidden row has its first number, 1, at the slot 0, the next one at the slot 1
    # and so on: the only number from 0 to one less than 1 is 0.
    for slot, row in enumerate(hidden):
        factor = numbers[slot]
        numbers = [number - factor * item for number, item in zip(numbers, row)]
    return numbers
