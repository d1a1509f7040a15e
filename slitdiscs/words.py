"""Words: the decimal texts of numbers, without any checks."""

MOST_DIGITS = 40
# Python itself makes no texts of numbers of many thousand digits, so they are put together of parts.
PART_DIGITS = 60
PART = 10 ** 60


def number_text(number):
    """Return the text of an integer of any size."""
    parts = []
    left = abs(number)
    while left >= PART:
        left, part = divmod(left, PART)
        parts.append(str(part).zfill(PART_DIGITS))
    parts.append(str(left))
    digits = "".join(parts[::-1])
    return f"-{digits}" if number < 0 else digits


def numbers_text(numbers):
    """Return the text of a list of integers: their texts as words."""
    return " ".join([number_text(number) for number in numbers])


def number_in(word):
    """Return the integer with a word as its text, None if there is none."""
    digits = word[1:] if word.startswith("-") else word
    if not digits.isascii() or not digits.isdigit() or len(digits) > MOST_DIGITS:
        return None
    # Only 0 itself begins with 0, and -0 is no number.
    if digits.startswith("0") and word != "0":
        return None
    return int(word)


def count_in(word):
    """Return the integer from 0 on with a word as its text, None if there is none."""
    number = number_in(word)
    return None if number is None or number < 0 else number
