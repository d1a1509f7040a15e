"""Polynomials with integer coefficients: lists that have at index i the number before x ** i."""


def divisor_polynomials(number):
    """Return a dict that has for each divisor d of a number from 1 on, ascending, C(d)."""
    found = {}
    for divisor in range(1, number + 1):
        if number % divisor == 0:
            found[divisor] = _next_polynomial(divisor, found)
    return found


def product_of(polynomials):
    """Return the product of all polynomials of a list, [1] if there are none."""
    whole = [1]
    for polynomial in polynomials:
        whole = _product(whole, polynomial)
    return whole


def rest_by(polynomial, divisor):
    """Return the rest of a polynomial by one that has 1 for its highest power, with zeros at the end."""
    return _divided(polynomial, divisor)[:len(divisor) - 1]


def _next_polynomial(divisor, smaller):
    # x ** divisor - 1 is the product of C(d) over all divisors d of the divisor,
    # and all of these but itself are among the smaller ones.
    left = [-1] + [0] * (divisor - 1) + [1]
    for other, polynomial in smaller.items():
        if divisor % other == 0:
            left = _divided(left, polynomial)[len(polynomial) - 1:]
    return left


def _product(one, two):
    found = [0] * (len(one) + len(two) - 1)
    for place, factor in enumerate(one):
        for more, number in enumerate(two):
            found[place + more] += factor * number
    return found


def _divided(polynomial, divisor):
    # The list has the rest in front and the quotient behind it: as the divisor's highest
    # power has 1, the number that is taken away at a place is that of the quotient.
    left = list(polynomial)
    degree = len(divisor) - 1
    for place in range(len(left) - 1, degree - 1, -1):
        factor = left[place]
        for lower in range(degree):
            left[place - degree + lower] -= factor * divisor[lower]
    return left
