"""Texts of discs, rows and looks, and how they are read."""

from slitdiscs.checks import MOST_LIGHT, MOST_LOOKS, MOST_SLOTS
from slitdiscs.errors import InvalidSyntax
from slitdiscs.words import count_in, number_in, number_text, numbers_text


def format_disc(disc):
    """Return the text of a disc."""
    return numbers_text(disc)


def format_row(row):
    """Return the text of a list of integers of any sign."""
    return numbers_text(row)


def format_looks(looks):
    """Return the text of looks, the empty one if there are none."""
    return " ".join([f"{number_text(turn)}={number_text(light)}" for turn, light in looks])


def parse_disc(text):
    """Return the disc with a text."""
    _check_text(text)
    return _parse_words(text, _slot_in, MOST_SLOTS)


def parse_row(text):
    """Return the row with a text."""
    _check_text(text)
    return _parse_words(text, number_in, MOST_SLOTS)


def parse_looks(text):
    """Return the looks with a text."""
    _check_text(text)
    if text == "":
        return []
    return _parse_words(text, _look_in, MOST_LOOKS)


def _check_text(text):
    if not isinstance(text, str):
        raise InvalidSyntax(None)


def _parse_words(text, value_in, most):
    # value_in tells the value of a word, None if the word has none.
    values = []
    for index, word in enumerate(text.split(" ")):
        value = value_in(word)
        if value is None or index >= most:
            raise InvalidSyntax(index)
        values.append(value)
    return values


def _slot_in(word):
    number = count_in(word)
    return None if number is None or number > MOST_LIGHT else number


def _look_in(word):
    before, _, behind = word.partition("=")
    turn, light = number_in(before), count_in(behind)
    return None if turn is None or light is None else (turn, light)
