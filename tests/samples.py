"""Right and wrong arguments, and a table of the functions that take them."""

import random

from slitdiscs import discs, flat, hidden, laid, lights, reading, rings, seen, sums, texts, twins
from slitdiscs.errors import (
    InvalidDisc, InvalidLights, InvalidLooks, InvalidNumber, InvalidRow, InvalidSyntax, InvalidTurn,
)

MOST = 10 ** 30
NO_INTEGERS = [
    True, False, None, "", "1", 1.0, float("nan"), 1j, (), (1,), [], [1], {}, {1: 1}, b"1", object(),
]
NO_LIST_OF_SLOTS = [
    True, False, None, 0, 1, MOST, 1.5, "", "1", "0 1", b"01", (), (0, 1), ([0, 1],),
    {}, {0: 1, 1: 0}, {0, 1}, range(2), object(),
    [], [0] * 41, ["x"] * 41, [None] * 1000,
]
NO_LIGHTS = NO_INTEGERS + [-1, -MOST, MOST + 1, 10 ** 40]
NO_LIST = [True, False, None, 0, 1, 1.5, "", "0=1", b"0=1", (), (0, 1), ((0, 1),), {}, {0: 1}, {(0, 1)}, object()]
NO_LOOKS = NO_INTEGERS + [
    0, 1, -1, [0, 1], (0,), (0, 1, 2), (None,) * 3, ((0, 1),), ((0, 1), (0, 1)), (0, (1,)), ((0,), 1), "01", "0=1",
    (0, -1), (0, -10 ** 50), (True, 1), (0, True), (False, False), (0.0, 1), (0, 1.0), ("0", 1), (0, "1"), (0, None),
    (None, 0), ([0], 1), {0: 1, 1: 2}, range(2),
]


def wrong_discs():
    """Return pairs of a wrong disc and the index that the error has."""
    found = [(value, None) for value in NO_LIST_OF_SLOTS]
    for item in NO_LIGHTS:
        found += [([item], 0), ([item, 0, 1], 0), ([0, item, 1], 1), ([0, 1, item], 2)]
    found += [([0] * 39 + [-1], 39), ([1, -1, "x", None], 1), ([MOST, MOST + 1, True], 1)]
    return found


def wrong_others():
    """Return pairs of what is wrong beside a disc of four slots, and the index of the error."""
    short = [([0], None), ([0, 1, 1], None), ([0] * 5, None), ([MOST] * 40, None)]
    return wrong_discs() + short


def wrong_rows():
    """Return pairs of what is no row beside a disc of four slots, and the index of the error."""
    found = [(value, None) for value in NO_LIST_OF_SLOTS]
    found += [([0], None), ([0] * 3, None), ([0] * 5, None), (["x"] * 3, None), ((1, 2, 3, 4), None)]
    for item in NO_INTEGERS:
        found += [([item, 0, 1, 2], 0), ([0, item, 1, -2], 1), ([0, -1, 2, item], 3)]
    return found + [([5, -5, None, "x"], 2)]


def wrong_own_lights():
    """Return pairs of what are no own lights of up to 14 slots, and the index of the error."""
    found = [(value, None) for value in NO_LIST_OF_SLOTS + [[0] * 15, [4] * 40, [-1] * 15, ["x"] * 15]]
    for item in NO_INTEGERS + [-1, -MOST, -10 ** 50]:
        found += [([item], 0), ([item, 0, 1], 0), ([0, item, 1], 1), ([0] * 13 + [item], 13)]
    return found + [([5, -5, None, "x"], 1), ([10 ** 50, 10 ** 50, True], 2)]


def wrong_slotted():
    """Return pairs of what is no slotted disc, and the index of the error."""
    found = [(value, None) for value in NO_LIST_OF_SLOTS]
    for item in NO_INTEGERS + [-1, 2, MOST, MOST + 1, -MOST]:
        found += [([item], 0), ([item, 0, 1], 0), ([0, item, 1], 1), ([0, 1, item], 2)]
    return found + [([0] * 39 + [2], 39), ([1] * 14 + [2], 14), ([1, 0, 3, -1], 2)]


def wrong_short_slotted():
    """Return pairs of what is no slotted disc of up to 14 slots, and the index of the error."""
    return wrong_slotted() + [([0] * 15, None), ([1] * 15, None), ([0, 1] * 20, None)]


def wrong_short_discs(most):
    """Return pairs of what is no disc of up to so many slots, less than 40, and the index of the error."""
    long = [([0] * (most + 1), None), ([MOST] * (most + 1), None), ([1] * 40, None)]
    return wrong_discs() + long + [([0] * most + [-1], most), ([1.0] + [0] * most, 0)]


def wrong_looks():
    """Return pairs of what are no looks, and the index of the error."""
    found = [(value, None) for value in NO_LIST + [[(0, 0)] * 41, ["x"] * 41, [None] * 1000]]
    for item in NO_LOOKS:
        found += [([item], 0), ([item, (0, 1)], 0), ([(0, 1), item, None], 1), ([(7, 0)] * 39 + [item], 39)]
    return found


def wrong_ring_lights():
    """Return pairs of what is no list of 1 to 1600 lights, and the index of the error."""
    found = [(value, None) for value in NO_LIST + [[], [0] * 1601, ["x"] * 1601]]
    for item in NO_INTEGERS:
        found += [([item], 0), ([0, item, None], 1), ([-1, 10 ** 50, item], 2)]
    return found + [([0] * 1599 + [True], 1599), ([-5, None] + [0] * 1598, 1)]


def wrong_words(right, wrong):
    """Return pairs of what is no text and the index of the word, of words that can stand there and others."""
    found = [(value, None) for value in NO_INTEGERS + [0, 7, b"0 1", ["0"], [0, 1]] if not isinstance(value, str)]
    for word in wrong:
        found += [(f"{word} {right}", 0), (f"{right} {word}", 1), (f"{right} {right} {word} {word}", 2)]
        found += [(" ".join([right] * 39 + [word]), 39)]
    found += [(" ".join([right] * 41), 40), (" ".join([right] * 45 + ["x"]), 40), (" ".join(["x"] * 41), 0)]
    found += [(" " * 10000, 0), (right + " " * 9000, 1), ("x" * 10000, 0), (" ".join([right] * 2500)[:10000], 40)]
    return found


NO_NUMBERS = [
    "", "-", "--1", "-0", "+1", "00", "01", "-01", "1_0", "1.0", "1e3", "0x1", "x", "1-", "1,", "1\n", "\n1", "\n",
    "1\n2", "1" + "0" * 40, "-1" + "0" * 40, "0" * 40, "True", "None", "1=1=1", "- 1", "~", "/", "\u00b2", "\u0663",
]
NO_SLOTS = NO_NUMBERS + ["-1", "1=1", str(MOST + 1), "9" * 40]
NO_TURNS = [f"{word}=1" for word in NO_NUMBERS if " " not in word and "=" not in word]
NO_SEEN = [f"1={word}" for word in NO_NUMBERS if " " not in word] + ["1=-1", "-5=-5"]


def without_fields(values):
    """Return pairs of wrong values and None: their errors have no index."""
    return [(value, None) for value in values]


# For each kind of argument: right values beside a disc of four slots, the error, wrong values
# (of a value that may be any one there are none).
KINDS = {
    "disc": ([[5, 0, 2, 0]], InvalidDisc, wrong_discs()),
    "short disc": ([[5, 0, 2, 0]], InvalidDisc, wrong_short_discs(12)),
    "shorter disc": ([[5, 0, 2, 0]], InvalidDisc, wrong_short_discs(8)),
    "slotted disc": ([[1, 0, 1, 0], [0] * 14, [1] * 14, [1]], InvalidDisc, wrong_short_slotted()),
    "slotted disc of any slots": ([[1, 0, 1, 0], [0] * 40, [1] * 40, [1]], InvalidDisc, wrong_slotted()),
    "other": ([[1, 3, 0, 0], [0, 0, 0, 0]], InvalidDisc, wrong_others()),
    "part": ([[1, 3, 0, 0], [0, 1, 0, 0]], InvalidDisc, wrong_others()),
    "row": ([[1, -3, 10 ** 50, 0]], InvalidRow, wrong_rows()),
    "lights": ([[5, 6, 2, 15], [-10 ** 50, 0, 1, -1], [0, 0, 0, 0]], InvalidLights, wrong_rows()),
    "own lights": ([[2, 0, 2, 0], [10 ** 50, 0], [0] * 14, [14] * 14], InvalidLights, wrong_own_lights()),
    # Each of these fits [1, 0, 1, 0] over the disc.
    "looks": ([[], [(0, 7), (-2, 7), (10 ** 39 + 1, 0)], [(2, 7)] * 40], InvalidLooks, wrong_looks()),
    "index": ([0], InvalidNumber, without_fields(NO_INTEGERS + [-1, -16, 16, 10 ** 50, -10 ** 50])),
    "factor": ([3, -1, 10 ** 39 + 1], InvalidNumber, without_fields(NO_INTEGERS + [0, 2, -2, 4, 6, 10 ** 39])),
    "any value": ([[1, 0, -1, 0], [0, 0, 0, 0], None, (0, 0, 0, 0)], None, []),
    "turn": ([0, -1, 6, 10 ** 39 + 1], InvalidTurn, without_fields(NO_INTEGERS)),
    "many": ([0, 3, 10 ** 39], InvalidNumber, without_fields(NO_INTEGERS + [-1, -10 ** 39])),
    "light": ([0, -7, 10 ** 39], InvalidNumber, without_fields(NO_INTEGERS)),
    "slots": ([4, 14], InvalidNumber, without_fields(NO_INTEGERS + [0, -1, -4, 15, 40, 10 ** 39])),
    "many of 4": ([4, 0, 1], InvalidNumber, without_fields(NO_INTEGERS + [-1, 5, 14, -10 ** 39, 10 ** 39])),
}

KINDS.update({
    "ring": ([[1, 3, 0, 0], [1], [0] * 40], InvalidDisc, wrong_discs()),
    "tick": ([0, 3, 10 ** 39], InvalidNumber, without_fields(NO_INTEGERS + [-1, -10 ** 39])),
    "ring lights": ([[5], [0, -5, 10 ** 50], [0] * 1600], InvalidLights, wrong_ring_lights()),
    "disc text": (["0 1 1 12", "0", str(MOST)], InvalidSyntax, [("", 0), *wrong_words("1", NO_SLOTS)]),
    "row text": (["2 -1 0", "-5", "9" * 40], InvalidSyntax, [("", 0), *wrong_words("-1", NO_NUMBERS + ["1=1"])]),
    "looks text": (["0=3 -5=1", "", "-7=0"], InvalidSyntax, wrong_words("-1=2", NO_NUMBERS + NO_TURNS + NO_SEEN)),
})

# The kinds of a second disc that has as many slots as the first one.
SAME_SLOTS = ("other", "part")

# The functions that list errors for their arguments, with the names of these and their kinds.
FUNCTIONS = [
    (discs.turned_disc, {"disc": "disc", "turn": "turn"}),
    (discs.mirrored_disc, {"disc": "disc"}),
    (discs.disc_period, {"disc": "disc"}),
    (discs.turn_between, {"disc": "disc", "other": "other"}),
    (discs.least_disc, {"disc": "disc"}),
    (discs.like_form, {"disc": "disc"}),
    (discs.are_like, {"disc": "disc", "other": "other"}),
    (lights.light_at, {"disc": "disc", "other": "other", "turn": "turn"}),
    (lights.all_lights, {"disc": "disc", "other": "other"}),
    (lights.row_lights, {"disc": "disc", "row": "row"}),
    (lights.brightest_turns, {"disc": "disc", "other": "other"}),
    (lights.light_sum, {"disc": "disc", "other": "other", "first": "turn", "step": "turn", "many": "many"}),
    (lights.first_bright, {"disc": "disc", "other": "other", "first": "turn", "step": "turn", "light": "light"}),
    (hidden.is_telling, {"disc": "disc"}),
    (hidden.blind_divisors, {"disc": "disc"}),
    (hidden.hidden_rows, {"disc": "disc"}),
    (hidden.hidden_count, {"disc": "disc"}),
    (hidden.is_hidden, {"disc": "disc", "value": "any value"}),
    (reading.reading_row, {"disc": "disc"}),
    (reading.read_row, {"disc": "disc", "lights": "lights"}),
    (reading.lights_fault, {"disc": "disc", "lights": "lights"}),
    (reading.first_row, {"disc": "short disc", "lights": "lights"}),
    (sums.is_sure, {"disc": "disc", "row": "row"}),
    (sums.sure_rows, {"disc": "disc"}),
    (sums.read_sum, {"disc": "disc", "lights": "lights", "row": "row"}),
    (sums.alike_lights, {"disc": "disc", "other": "other"}),
    (twins.own_lights, {"disc": "disc"}),
    (twins.are_twins, {"disc": "disc", "other": "other"}),
    (twins.twin_discs, {"disc": "slotted disc"}),
    (twins.disc_with, {"lights": "own lights"}),
    (twins.twin_count, {"slots": "slots", "many": "many of 4"}),
    (twins.form_count, {"slots": "slots", "many": "many of 4"}),
    (laid.laid_disc, {"disc": "disc", "other": "other"}),
    (laid.shut_disc, {"disc": "slotted disc of any slots"}),
    (laid.other_part, {"disc": "disc", "part": "part"}),
    (laid.multiplied_disc, {"disc": "disc", "factor": "factor"}),
    (flat.is_flat, {"disc": "disc"}),
    (flat.flat_discs, {"slots": "slots", "many": "many of 4"}),
    (flat.flat_turns, {"disc": "disc"}),
    (seen.fits_count, {"disc": "short disc", "looks": "looks"}),
    (seen.nth_fit, {"disc": "short disc", "looks": "looks", "index": "index"}),
    (seen.sure_slots, {"disc": "short disc", "looks": "looks"}),
    (seen.clash_index, {"disc": "short disc", "looks": "looks"}),
    (seen.telling_turns, {"disc": "shorter disc", "looks": "looks"}),
    (rings.ring_light, {"disc": "disc", "other": "ring", "tick": "tick"}),
    (rings.ring_sum, {"disc": "disc", "other": "ring", "first": "tick", "many": "tick"}),
    (rings.first_tick, {"disc": "disc", "other": "ring", "first": "tick", "light": "light"}),
    (rings.dark_stretch, {"disc": "disc", "other": "ring"}),
    (rings.tick_of, {"disc": "disc", "other": "ring", "lights": "ring lights"}),
    (rings.unlike_ticks, {"disc": "disc", "other": "ring"}),
    (texts.parse_disc, {"text": "disc text"}),
    (texts.parse_row, {"text": "row text"}),
    (texts.parse_looks, {"text": "looks text"}),
]


def right_calls():
    """Return pairs of a function and a list of right arguments for it."""
    found = []
    for function, kinds in FUNCTIONS:
        values = [KINDS[kind][0] for kind in kinds.values()]
        for turn in range(max(len(row) for row in values)):
            found.append((function, [row[turn % len(row)] for row in values]))
    return found


def some_discs(many, slots, most):
    """Return so many discs of so many slots, the same ones in each run."""
    source = random.Random(f"{many} {slots} {most}")
    return [[source.randint(0, most) for _ in range(slots)] for _ in range(many)]
