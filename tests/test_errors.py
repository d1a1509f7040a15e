"""[3]: the errors, what they derive from, and their fields."""

import unittest

from slitdiscs import errors

WITH_TEXT = ["InvalidNumber", "InvalidTurn", "InvalidSlot", "Impossible", "NothingToUndo", "InvalidCommand"]
WITH_INDEX = ["InvalidDisc", "InvalidRow", "InvalidLights", "InvalidLooks"]


class ErrorTest(unittest.TestCase):
    def test_base(self):
        self.assertEqual(errors.DiscError.__bases__, (ValueError,))
        self.assertEqual(str(errors.DiscError("some words")), "some words")

    def test_each_is_a_direct_subclass(self):
        for name in WITH_TEXT + WITH_INDEX + ["InvalidSyntax"]:
            with self.subTest(name):
                self.assertEqual(getattr(errors, name).__bases__, (errors.DiscError,))

    def test_no_other_errors(self):
        found = [name for name, value in vars(errors).items() if isinstance(value, type)]
        self.assertEqual(sorted(found), sorted(WITH_TEXT + WITH_INDEX + ["InvalidSyntax", "DiscError"]))

    def test_one_string(self):
        for name in WITH_TEXT:
            with self.subTest(name):
                error = getattr(errors, name)("some words")
                self.assertEqual(str(error), "some words")
                self.assertEqual(vars(error), {})

    def test_index_by_position_and_by_name(self):
        for name in WITH_INDEX:
            for index in (None, 0, 7, 10 ** 50):
                with self.subTest(name, index=index):
                    made = getattr(errors, name)
                    self.assertEqual(vars(made(index)), {"index": index})
                    self.assertEqual(vars(made(index=index)), {"index": index})

    def test_word_by_position_and_by_name(self):
        for word in (None, 0, 7):
            with self.subTest(word):
                self.assertEqual(vars(errors.InvalidSyntax(word)), {"word": word})
                self.assertEqual(vars(errors.InvalidSyntax(word=word)), {"word": word})

    def test_fields_are_needed(self):
        for name in WITH_INDEX + ["InvalidSyntax"]:
            with self.subTest(name), self.assertRaises(TypeError):
                getattr(errors, name)()

    def test_caught_as_its_base(self):
        for base in (errors.DiscError, ValueError):
            with self.assertRaises(base):
                raise errors.InvalidDisc(3)
