"""Right and wrong arguments, and a table of the functions that take them."""

import random

from slitdiscs import discs, lights
from slitdiscs.errors import InvalidDisc, InvalidNumber, InvalidRow, InvalidTurn

MOST = 10 ** 30
NO_INTEGERS = [
    True, False, None, "", "1", 1.0, float("nan"), 1j, (), (1,), [], [1], {}, {1: 1}, b"1", object(),
]
NO_LIST_OF_SLOTS = [
    True, False, None, 0, 1, MOST, 1.5, "", "1", "0 1", b"01", (), (0, 1), ([0, 1],),
    {}, {0: 1, 1: 0}, {0, 1}, range(2), object(),
    [], [0] * 41, ["x"] * 41, [None] * 1000,
]
NO_LIGHTS = NO_INTEGERS + [-1, -MOST, MOST + 1, 10 ** 40]


def wrong_discs():
    """Return pairs of a wrong disc and the index that the error has."""
    found = [(value, None) for value in NO_LIST_OF_SLOTS]
    for item in NO_LIGHTS:
        found += [([item], 0), ([item, 0, 1], 0), ([0, item, 1], 1), ([0, 1, item], 2)]
    found += [([0] * 39 + [-1], 39), ([1, -1, "x", None], 1), ([MOST, MOST + 1, True], 1)]
    return found


def wrong_others():
    """Return pairs of what is wrong beside a disc of four slots, and the index of the error."""
    short = [([0], None), ([0, 1, 1], None), ([0] * 5, None), ([MOST] * 40, None)]
    return wrong_discs() + short


def wrong_rows():
    """Return pairs of what is no row beside a disc of four slots, and the index of the error."""
    found = [(value, None) for value in NO_LIST_OF_SLOTS]
    found += [([0], None), ([0] * 3, None), ([0] * 5, None), (["x"] * 3, None), ((1, 2, 3, 4), None)]
    for item in NO_INTEGERS:
        found += [([item, 0, 1, 2], 0), ([0, item, 1, -2], 1), ([0, -1, 2, item], 3)]
    return found + [([5, -5, None, "x"], 2)]


def without_fields(values):
    """Return pairs of wrong values and None: their errors have no index."""
    return [(value, None) for value in values]


# For each kind of argument: right values beside a disc of four slots, the error, wrong values.
KINDS = {
    "disc": ([[5, 0, 2, 0]], InvalidDisc, wrong_discs()),
    "other": ([[1, 3, 0, 0], [0, 0, 0, 0]], InvalidDisc, wrong_others()),
    "row": ([[1, -3, 10 ** 50, 0]], InvalidRow, wrong_rows()),
    "turn": ([0, -1, 6, 10 ** 39 + 1], InvalidTurn, without_fields(NO_INTEGERS)),
    "first": ([3, -10 ** 39], InvalidTurn, without_fields(NO_INTEGERS)),
    "step": ([0, -1, 10 ** 39 + 2], InvalidTurn, without_fields(NO_INTEGERS)),
    "many": ([0, 3, 10 ** 39], InvalidNumber, without_fields(NO_INTEGERS + [-1, -10 ** 39])),
    "light": ([0, -7, 10 ** 39], InvalidNumber, without_fields(NO_INTEGERS)),
}

# The functions that list errors for their arguments, with the names of these.
FUNCTIONS = [
    (discs.turned_disc, ["disc", "turn"]),
    (discs.mirrored_disc, ["disc"]),
    (discs.disc_period, ["disc"]),
    (discs.turn_between, ["disc", "other"]),
    (discs.least_disc, ["disc"]),
    (discs.like_form, ["disc"]),
    (discs.are_like, ["disc", "other"]),
    (lights.light_at, ["disc", "other", "turn"]),
    (lights.all_lights, ["disc", "other"]),
    (lights.row_lights, ["disc", "row"]),
    (lights.brightest_turns, ["disc", "other"]),
    (lights.light_sum, ["disc", "other", "first", "step", "many"]),
    (lights.first_bright, ["disc", "other", "first", "step", "light"]),
]


def right_calls():
    """Return pairs of a function and a list of right arguments for it."""
    found = []
    for function, names in FUNCTIONS:
        longest = max(len(KINDS[name][0]) for name in names)
        for turn in range(longest):
            values = [KINDS[name][0] for name in names]
            found.append((function, [row[turn % len(row)] for row in values]))
    return found


def some_discs(many, slots, most):
    """Return so many discs of so many slots, the same ones in each run."""
    source = random.Random(f"{many} {slots} {most}")
    return [[source.randint(0, most) for _ in range(slots)] for _ in range(many)]
