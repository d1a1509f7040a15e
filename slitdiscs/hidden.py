"""Hidden rows: those whose lights with a disc are all 0."""

from slitdiscs.around import lights_between
from slitdiscs.checks import check_disc, is_row
from slitdiscs.steps import blind_polynomials, hidden_steps


def is_telling(disc):
    """Return whether only the row of 0 alone is hidden for a disc."""
    check_disc(disc)
    return len(blind_polynomials(disc)) == 0


def blind_divisors(disc):
    """Return the blind divisors of a disc, ascending."""
    check_disc(disc)
    return list(blind_polynomials(disc))


def hidden_rows(disc):
    """Return the rows in steps of which each hidden row is a sum of multiples in just one way."""
    check_disc(disc)
    return hidden_steps(disc)


def hidden_count(disc):
    """Return the number of the hidden rows in steps."""
    check_disc(disc)
    return sum([len(polynomial) - 1 for polynomial in blind_polynomials(disc).values()])


def is_hidden(disc, value):
    """Return whether any value is a hidden row."""
    check_disc(disc)
    return is_row(value, len(disc)) and not any(lights_between(disc, value))
