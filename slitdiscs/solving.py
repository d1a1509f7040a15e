"""How the lights of a disc are read back, without any checks."""

from math import gcd

from slitdiscs.around import lights_between, mirrored_list, turned_list


def reading_pair(items):
    """Return the reading row and the bottom of a telling list; its items may also be below 0."""
    # This is Euclid's way to the greatest common divisor of x ** n - 1 and the polynomial of
    # the items. In each pair the first list is the second one laid around the items.
    slots = len(items)
    longer = [-1] + [0] * (slots - 1) + [1], [0] * slots
    shorter = _cut(items), [1] + [0] * (slots - 1)
    while len(shorter[0]) > 1:
        longer = _shortened(longer, shorter)
        if len(longer[0]) < len(shorter[0]):
            longer, shorter = shorter, longer
    # Now a single number is left, at the slot 0.
    bottom, row = shorter[0][0], mirrored_list(shorter[1])
    if bottom < 0:
        return [-number for number in row], -bottom
    return row, bottom


def fractions_with(disc, hidden, lights):
    """Return numbers and a bottom: divided by it they are a row with these lights with the disc.

    The hidden rows are those of the disc, in steps, and some row of fractions has the lights.
    """
    row, bottom = reading_pair(_made_telling(disc, hidden))
    return lights_between(row, lights), bottom


def whole_row(numbers, bottom):
    """Return the row of the numbers divided by the bottom, None if one of them is no integer."""
    if any([number % bottom for number in numbers]):
        return None
    return [number // bottom for number in numbers]


def _made_telling(disc, hidden):
    # The last hidden row is, but for its sign and a turn, the product of all C(d) that are not
    # blind: with it added no divisor is blind any more. The lights stay: a row is the sum of a
    # hidden and of a sure one, and this one has the same lights, and none with hidden rows.
    if not hidden:
        return disc
    return [light + number for light, number in zip(disc, hidden[-1])]


def _shortened(pair, lower):
    # Takes the highest power away, and then the divisor that all numbers have in common:
    # if it stayed, the numbers would soon have too many digits.
    rest, factor = pair
    less, less_factor = lower
    shift = len(rest) - len(less)
    common = gcd(rest[-1], less[-1])
    keep, take = less[-1] // common, rest[-1] // common
    rest = _cut(_difference(keep, rest, take, [0] * shift + less))
    factor = _difference(keep, factor, take, turned_list(less_factor, shift))
    common = _common_divisor(rest + factor)
    return [number // common for number in rest], [number // common for number in factor]


def _difference(keep, one, take, two):
    return [keep * first - take * second for first, second in zip(one, two)]


def _common_divisor(numbers):
    common = 0
    for number in numbers:
        common = gcd(common, number)
        if common == 1:
            return 1
    return common


def _cut(polynomial):
    # Of a telling list no rest is 0 alone: that would be a divisor in common with x ** n - 1.
    size = len(polynomial)
    while polynomial[size - 1] == 0:
        size -= 1
    return polynomial[:size]
