"""What the document says in other, slower words, to hold the answers of the package against."""

import functools
import itertools
from fractions import Fraction
from math import gcd


def plain_lights(disc, row):
    """The lights as [6] words them: at the turn t the sum of disc[i] * row[i - t], counted around."""
    size = len(disc)
    return [sum(disc[i] * row[(i - turn) % size] for i in range(size)) for turn in range(size)]


def table_of(disc):
    """For each turn the list of what the slots of the other disc are multiplied with."""
    size = len(disc)
    return [[disc[(slot + turn) % size] for slot in range(size)] for turn in range(size)]


def plain_forms(disc):
    """All discs that are like a disc, as [5] words it."""
    size = len(disc)
    found = []
    for turn in range(size):
        for side in (1, -1):
            other = [None] * size
            for slot, light in enumerate(disc):
                other[(side * slot + turn) % size] = light
            found.append(other)
    return found


def one_solution(table, sums):
    """Some row of fractions that has with each row of the table the sum, None if there is none."""
    rows = [[Fraction(item) for item in row] + [Fraction(total)] for row, total in zip(table, sums)]
    size = len(table[0])
    pivots = []
    for column in range(size):
        done = len(pivots)
        found = [at for at in range(done, len(rows)) if rows[at][column]]
        if not found:
            continue
        rows[done], rows[found[0]] = rows[found[0]], rows[done]
        rows[done] = [item / rows[done][column] for item in rows[done]]
        for at in range(len(rows)):
            if at != done:
                factor = rows[at][column]
                rows[at] = [item - factor * lead for item, lead in zip(rows[at], rows[done])]
        pivots.append(column)
    if any(row[size] for row in rows[len(pivots):]):
        return None
    answer = [Fraction(0)] * size
    for at, column in enumerate(pivots):
        answer[column] = rows[at][size]
    return answer


def rows_in_steps(rows):
    """The one list of rows in steps [8] with the same sums of integer multiples as these rows."""
    rows = [list(row) for row in rows]
    size = len(rows[0]) if rows else 0
    done = 0
    for column in range(size):
        while True:
            left = [at for at in range(done, len(rows)) if rows[at][column]]
            if not left:
                break
            least = min(left, key=lambda at: abs(rows[at][column]))
            rows[done], rows[least] = rows[least], rows[done]
            for at in range(done + 1, len(rows)):
                factor = rows[at][column] // rows[done][column]
                rows[at] = [item - factor * lead for item, lead in zip(rows[at], rows[done])]
            if not any(rows[at][column] for at in range(done + 1, len(rows))):
                break
        if done < len(rows) and rows[done][column]:
            if rows[done][column] < 0:
                rows[done] = [-item for item in rows[done]]
            for at in range(done):
                factor = rows[at][column] // rows[done][column]
                rows[at] = [item - factor * lead for item, lead in zip(rows[at], rows[done])]
            done += 1
    return rows[:done]


def rows_without_sums(table):
    """The rows in steps that make all rows of integers with the sum 0 with each row of the table."""
    size = len(table[0])
    # Columns of sums in front of the unit rows: the same steps are made with both, and
    # where the sums come to 0, what stands behind them is such a row.
    wide = [[row[slot] for row in table] + [int(slot == at) for at in range(size)] for slot in range(size)]
    stepped = rows_in_steps(wide)
    return rows_in_steps([row[len(table):] for row in stepped if not any(row[:len(table)])])


def is_in_steps(rows):
    """Whether rows are in steps, as [8] words it."""
    before = -1
    for at, row in enumerate(rows):
        places = [place for place, item in enumerate(row) if item]
        if not places or places[0] <= before or row[places[0]] <= 0:
            return False
        before = places[0]
        if any(not 0 <= ahead[before] < row[before] for ahead in rows[:at]):
            return False
    return True


@functools.lru_cache(None)
def plain_polynomials(number):
    """C(d) for each divisor d of a number: the product of x ** (d // e) - 1 to the power of mu(e)."""
    found = {}
    for divisor in (d for d in range(1, number + 1) if number % d == 0):
        above, below = [1], [1]
        for e in (e for e in range(1, divisor + 1) if divisor % e == 0):
            factor = [-1] + [0] * (divisor // e - 1) + [1]
            if moebius(e) == 1:
                above = times(above, factor)
            elif moebius(e) == -1:
                below = times(below, factor)
        found[divisor] = [int(item) for item in quotient(above, below)]
    return found


def moebius(number):
    """1 or -1 for an even or odd number of unlike primes, 0 if a prime comes twice."""
    sign = 1
    for prime in range(2, number + 1):
        if number % prime == 0:
            number //= prime
            sign = -sign
            if number % prime == 0:
                return 0
    return sign


def times(one, two):
    """The product of two polynomials, the number before x ** i at i."""
    return [
        sum(one[i] * two[at - i] for i in range(len(one)) if 0 <= at - i < len(two))
        for at in range(len(one) + len(two) - 1)
    ]


def quotient(above, below):
    """A polynomial divided by one that divides it."""
    degree = len(above) - len(below)
    table = [[below[at - i] if 0 <= at - i < len(below) else 0 for i in range(degree + 1)] for at in range(len(above))]
    return one_solution(table, above)


def disc_with_blind(number, divisors, more):
    """A disc for which these divisors, 1 not among them, are blind: a multiple of their C(d), made light."""
    polynomials = plain_polynomials(number)
    whole = more
    for divisor in divisors:
        whole = times(whole, polynomials[divisor])
    disc = [0] * number
    for at, item in enumerate(whole):
        disc[at % number] += item
    # More light at all slots changes nothing for the divisors above 1, and 1 is not blind then.
    return [item - min(disc) + 1 for item in disc]


def reduced(top, bottom):
    """A fraction as a tuple (top, bottom) without a common divisor, bottom from 1 on."""
    common = gcd(top, bottom)
    return (top // common, bottom // common) if bottom > 0 else (-top // common, -bottom // common)


def all_slotted(slots):
    """All slotted discs with so many slots, ascending."""
    return [list(items) for items in itertools.product((0, 1), repeat=slots)]
