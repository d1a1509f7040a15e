"""Blind divisors and rows in steps, without any checks."""

from slitdiscs.polynomials import divisor_polynomials, product_of, rest_by


def blind_polynomials(disc):
    """Return a dict that has for each blind divisor d of a disc, ascending, C(d)."""
    polynomials = divisor_polynomials(len(disc))
    return {divisor: found for divisor, found in polynomials.items() if not any(rest_by(disc, found))}


def hidden_steps(disc):
    """Return the rows in steps that make all hidden rows."""
    blind = blind_polynomials(disc)
    polynomials = divisor_polynomials(len(disc))
    return _multiples(product_of([polynomials[divisor] for divisor in polynomials if divisor not in blind]), len(disc))


def sure_steps(disc):
    """Return the rows in steps that make all sure rows."""
    return _multiples(product_of(list(blind_polynomials(disc).values())), len(disc))


def product_sum(one, two):
    """Return the sum of one[i] * two[i] over all slots i."""
    return sum([first * second for first, second in zip(one, two)])


def first_unlike(rows, other):
    """Return the first of the rows whose product sum with the other one is not 0, or None."""
    for row in rows:
        if product_sum(row, other) != 0:
            return row
    return None


def _multiples(polynomial, slots):
    # A row is hidden if it is, read from the last slot to the first, a multiple of all C(d)
    # that are not blind; sure if it is one of all blind ones. So a power of x less its rest
    # is such a row, with 1 at its own slot and 0 at those of all the other powers.
    degree = len(polynomial) - 1
    return [_less_rest(slots, place, polynomial) for place in range(slots - degree)]


def _less_rest(slots, place, polynomial):
    power = [0] * (slots - 1 - place) + [1]
    rest = rest_by(power, polynomial)
    filled = [-number for number in rest] + [0] * (slots - len(rest))
    filled[slots - 1 - place] = 1
    return filled[::-1]
