"""[26], [27]: texts of discs, rows and looks."""

import itertools
import random
import unittest

from slitdiscs.errors import InvalidSyntax
from slitdiscs.texts import format_disc, format_looks, format_row, parse_disc, parse_looks, parse_row
from tests.samples import MOST, some_discs

GREATEST = 10 ** 40 - 1


def some_rows():
    source = random.Random("rows")
    found = [[0], [-1], [GREATEST], [-GREATEST], [0] * 40, [-GREATEST] * 40]
    return found + [[source.randint(-10 ** size, 10 ** size) for _ in range(size)] for size in range(1, 40)]


def some_looks():
    source = random.Random("looks")
    found = [[], [(0, 0)], [(-1, 0)], [(GREATEST, GREATEST)] * 40, [(-GREATEST, 0)]]
    for size in range(1, 40):
        found.append([(source.randint(-10 ** size, 10 ** size), source.randint(0, 10 ** size)) for _ in range(size)])
    return found


class FormatTest(unittest.TestCase):
    def test_discs(self):
        for disc in [[0], [MOST], [1, 0, 12], [0] * 40, [MOST] * 40] + some_discs(5, 17, MOST):
            self.assertEqual(format_disc(disc), " ".join(str(item) for item in disc))

    def test_rows(self):
        for row in some_rows():
            self.assertEqual(format_row(row), " ".join(str(item) for item in row))

    def test_looks(self):
        for looks in some_looks():
            self.assertEqual(format_looks(looks), " ".join(f"{turn}={light}" for turn, light in looks))
        self.assertEqual(format_looks([]), "")

    def test_numbers_of_many_digits(self):
        for number in (10 ** 41, 10 ** 59, 10 ** 60 - 1, 10 ** 60, 10 ** 60 + 7, 3 ** 500, 10 ** 4000 - 10 ** 70 + 1):
            self.assertEqual(format_row([number, -number]), f"{number} -{number}")
            self.assertEqual(format_looks([(-number, number)]), f"-{number}={number}")
        # Python itself makes no text of such a number.
        self.assertEqual(format_row([-10 ** 9000, 1]), "-1" + "0" * 9000 + " 1")
        self.assertEqual(format_looks([(10 ** 5000 + 1, 10 ** 5000 - 1)]), "1" + "0" * 4999 + "1=" + "9" * 5000)


class ParseTest(unittest.TestCase):
    def check_wrong(self, parse, text, word):
        with self.subTest(parse.__name__, text=text):
            with self.assertRaises(InvalidSyntax) as caught:
                parse(text)
            self.assertEqual(caught.exception.word, word)

    def test_discs_come_back(self):
        for disc in [[0], [MOST], [MOST - 1, 0], [0] * 40, [MOST] * 40] + some_discs(9, 23, MOST) + some_discs(9, 7, 1):
            self.assertEqual(parse_disc(format_disc(disc)), disc)
            self.assertEqual(parse_row(format_disc(disc)), disc)

    def test_rows_come_back(self):
        for row in some_rows():
            self.assertEqual(parse_row(format_row(row)), row)

    def test_looks_come_back(self):
        for looks in some_looks():
            self.assertEqual(parse_looks(format_looks(looks)), looks)

    def test_limits_of_numbers(self):
        self.assertEqual(parse_disc(f"0 {MOST}"), [0, MOST])
        self.check_wrong(parse_disc, f"0 {MOST + 1}", 1)
        self.check_wrong(parse_disc, f"0 1 {GREATEST}", 2)
        self.check_wrong(parse_disc, "-1", 0)
        self.assertEqual(parse_row(f"{GREATEST} -{GREATEST}"), [GREATEST, -GREATEST])
        self.check_wrong(parse_row, f"{GREATEST} {GREATEST + 1}", 1)
        self.check_wrong(parse_row, f"-{GREATEST} 0 -{GREATEST + 1}", 2)
        self.assertEqual(parse_looks(f"-{GREATEST}={GREATEST}"), [(-GREATEST, GREATEST)])
        self.check_wrong(parse_looks, f"0=0 {GREATEST + 1}=0", 1)
        self.check_wrong(parse_looks, f"0=0 -{GREATEST + 1}=0", 1)
        self.check_wrong(parse_looks, f"0=0 0={GREATEST + 1}", 1)
        self.check_wrong(parse_looks, "0=-1", 0)
        self.check_wrong(parse_looks, "0=-0", 0)
        self.check_wrong(parse_looks, "-0=0", 0)

    def test_number_of_words(self):
        for parse, word, value in ((parse_disc, "7", 7), (parse_row, "-7", -7), (parse_looks, "-7=7", (-7, 7))):
            self.assertEqual(parse(" ".join([word] * 40)), [value] * 40)
            self.check_wrong(parse, " ".join([word] * 41), 40)
            self.check_wrong(parse, " ".join([word] * 41 + ["x"]), 40)
            self.check_wrong(parse, " ".join([word] * 40 + ["x"]), 40)
            self.check_wrong(parse, " ".join([word] * 39 + ["x"] * 5), 39)
            self.check_wrong(parse, " ".join(["x"] * 50), 0)

    def test_empty_words(self):
        self.assertEqual(parse_looks(""), [])
        for parse, word in ((parse_disc, "7"), (parse_row, "-7"), (parse_looks, "-7=7")):
            if parse != parse_looks:
                self.check_wrong(parse, "", 0)
            self.check_wrong(parse, " ", 0)
            self.check_wrong(parse, f" {word}", 0)
            self.check_wrong(parse, f"{word} ", 1)
            self.check_wrong(parse, f"{word}  {word}", 1)
            self.check_wrong(parse, f"{word}\n", 0)
            self.check_wrong(parse, f"\n{word}", 0)
            self.check_wrong(parse, f"{word} \n {word}", 1)
            self.check_wrong(parse, f"{word} {word}\n{word}", 1)
            self.check_wrong(parse, f"{word}\t{word}", 0)

    def test_no_strings(self):
        for value in (None, True, 0, 1, 1.5, b"1", ["1"], [1], (), {}, {"1"}, object()):
            for parse in (parse_disc, parse_row, parse_looks):
                self.check_wrong(parse, value, None)

    def test_all_short_texts(self):
        # Against what Python makes of a word: it is a number if its text comes back.
        for length in (1, 2, 3):
            for letters in itertools.product("-01+_ =\n2", repeat=length):
                text = "".join(letters)
                self.check_row(text)

    def check_row(self, text):
        wrong = [index for index, word in enumerate(text.split(" ")) if not self.is_number(word)]
        if wrong:
            self.check_wrong(parse_row, text, wrong[0])
        else:
            self.assertEqual(format_row(parse_row(text)), text)

    def is_number(self, word):
        try:
            return str(int(word)) == word
        except ValueError:
            return False
