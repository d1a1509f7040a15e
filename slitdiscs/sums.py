"""Sure sums: what the lights with a disc tell also if there are hidden rows."""

from math import gcd

from slitdiscs.checks import check_disc, check_discs, check_lights, check_row
from slitdiscs.errors import Impossible
from slitdiscs.solving import fractions_with
from slitdiscs.steps import blind_polynomials, first_unlike, hidden_steps, product_sum, sure_steps


def is_sure(disc, row):
    """Return whether the sum with the row is the same for all rows with the same lights."""
    check_disc(disc)
    check_row(row, len(disc))
    return first_unlike(hidden_steps(disc), row) is None


def sure_rows(disc):
    """Return the rows in steps of which each sure row is a sum of multiples in just one way."""
    check_disc(disc)
    return sure_steps(disc)


def read_sum(disc, lights, row):
    """Return the sum with a sure row for the rows with these lights, as a tuple (top, bottom)."""
    check_disc(disc)
    check_lights(lights, len(disc))
    check_row(row, len(disc))
    hidden = hidden_steps(disc)
    if first_unlike(hidden, row) is not None:
        raise Impossible("the row is not sure")
    if first_unlike(hidden, lights) is not None:
        raise Impossible("no row has these lights")
    numbers, bottom = fractions_with(disc, hidden, lights)
    top = product_sum(row, numbers)
    common = gcd(top, bottom)
    return top // common, bottom // common


def alike_lights(disc, other):
    """Return whether two discs have the same hidden rows."""
    check_discs(disc, other)
    return list(blind_polynomials(disc)) == list(blind_polynomials(other))
