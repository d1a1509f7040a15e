"""[3], [10], [11]: wrong arguments, alone and several at once, and what the error says."""

import copy
import itertools
import unittest

from tests.samples import FUNCTIONS, KINDS


class WrongTest(unittest.TestCase):
    def check_raises(self, function, arguments, error, index):
        before = copy.copy(arguments)
        inner = [copy.copy(value) if isinstance(value, (list, dict)) else value for value in arguments]
        with self.subTest(function.__name__, arguments=arguments):
            with self.assertRaises(error) as caught:
                function(*arguments)
            self.assertIs(type(caught.exception), error)
            if index is not None or hasattr(error(None), "index"):
                self.assertEqual(repr(caught.exception.index), repr(index))
            for value, old, content in zip(arguments, before, inner):
                self.assertIs(value, old)
                if isinstance(value, (list, dict)):
                    self.assertEqual(repr(value), repr(content))

    def right(self, names):
        return [copy.copy(KINDS[name][0][0]) for name in names]

    def test_each_argument_wrong_alone(self):
        for function, names in FUNCTIONS:
            for place, name in enumerate(names):
                _, error, wrong = KINDS[name]
                for value, index in wrong:
                    arguments = self.right(names)
                    arguments[place] = value
                    if name == "disc" and "other" in names and isinstance(value, list) and value:
                        # As many slots, so that the disc alone is wrong.
                        arguments[1] = [0] * len(value)
                    self.check_raises(function, arguments, error, index)

    def test_two_arguments_wrong(self):
        for function, names in FUNCTIONS:
            for first, second in itertools.combinations(range(len(names)), 2):
                _, error, wrong = KINDS[names[first]]
                for (value, index), (later, _) in itertools.product(wrong, KINDS[names[second]][2][::7]):
                    arguments = self.right(names)
                    arguments[first], arguments[second] = value, later
                    self.check_raises(function, arguments, error, index)

    def test_all_arguments_wrong(self):
        for function, names in FUNCTIONS:
            for first in range(len(names)):
                arguments = self.right(names[:first]) + [None for _ in names[first:]]
                self.check_raises(function, arguments, KINDS[names[first]][1], None)

    def test_other_slots_are_told_before_the_turn(self):
        for function, names in FUNCTIONS:
            if "other" in names and len(names) > 2:
                arguments = [[1, 0, 1], [1, 0]] + ["x" for _ in names[2:]]
                self.check_raises(function, arguments, KINDS["disc"][1], None)

    def test_wrong_items_are_told_before_the_number_of_slots(self):
        for function, names in FUNCTIONS:
            if "other" in names:
                rest = self.right(names[2:])
                self.check_raises(function, [[1, 0, 1], [1, -1]] + rest, KINDS["disc"][1], 1)
                self.check_raises(function, [[1, 0, 1], [1, 0, 1, 0, None]] + rest, KINDS["disc"][1], 4)
