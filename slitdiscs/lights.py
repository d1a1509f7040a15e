"""Lights: what passes through a disc and another one that is turned over it."""

from slitdiscs.around import light_between, lights_between
from slitdiscs.checks import check_count, check_disc, check_discs, check_number, check_row, check_turn


def light_at(disc, other, turn):
    """Return the light of both discs at a turn."""
    check_discs(disc, other)
    check_turn(turn)
    return light_between(disc, other, turn)


def all_lights(disc, other):
    """Return the lights of both discs at the turns 0, 1 and so on."""
    check_discs(disc, other)
    return lights_between(disc, other)


def row_lights(disc, row):
    """Return the lights of a disc and a row at the turns 0, 1 and so on."""
    check_disc(disc)
    check_row(row, len(disc))
    return lights_between(disc, row)


def brightest_turns(disc, other):
    """Return the turns with the greatest light, ascending."""
    check_discs(disc, other)
    lights = lights_between(disc, other)
    greatest = max(lights)
    return [turn for turn, light in enumerate(lights) if light == greatest]


def light_sum(disc, other, first, step, many):
    """Return the sum of the lights at so many turns, from the first one on by steps."""
    check_discs(disc, other)
    check_turn(first)
    check_turn(step)
    check_count(many)
    lights = _stepped_lights(disc, other, first, step)
    rounds, rest = divmod(many, len(lights))
    return rounds * sum(lights) + sum(lights[:rest])


def first_bright(disc, other, first, step, light):
    """Return the least number of steps behind which there is so much light, or None."""
    check_discs(disc, other)
    check_turn(first)
    check_turn(step)
    check_number(light)
    for steps, present in enumerate(_stepped_lights(disc, other, first, step)):
        if present >= light:
            return steps
    return None


def _stepped_lights(disc, other, first, step):
    # As many steps as there are slots make whole rounds, whatever the step is:
    # behind them the same lights come again.
    lights = lights_between(disc, other)
    size = len(lights)
    return [lights[(first + step * index) % size] for index in range(size)]
