"""[4], [23], [24], [25]: live discs, told call by call and held against new ones."""

import copy
import random
import unittest

from slitdiscs.errors import InvalidDisc, InvalidNumber, InvalidSlot, InvalidTurn, NothingToUndo
from slitdiscs.live import LiveDiscs
from tests.plain import plain_lights
from tests.samples import MOST, NO_INTEGERS, some_discs, wrong_discs, wrong_others

GREAT = 10 ** 39


def state(live):
    """All that can be asked of live discs."""
    return [live.disc, live.other, live.turn, live.light, live.log, len(live)]


def plain_state(disc, other, log):
    """What live discs are behind the calls of a log, worked out from the beginning."""
    size, turn, other = len(disc), 0, list(other)
    for call in log:
        if call[0] == "turn":
            turn += call[1]
        elif call[0] == "slot":
            other[call[1]] = call[2]
        else:
            other = [other[0]] + other[:0:-1]
    return [list(disc), other, turn % size, plain_lights(disc, other)[turn % size], list(log), len(log)]


def make_call(live, call):
    """Make a call as it stands in a log."""
    name, *values = call
    return {"turn": live.turn_by, "slot": live.set_slot, "mirror": live.mirror_other}[name](*values)


def some_call(size, source):
    turns = [0, 1, -1, size, source.randint(-99, 99), source.randint(-GREAT, GREAT)]
    slot = ("slot", source.randrange(size), source.choice([0, 1, 5, source.randint(0, MOST), MOST]))
    return source.choice([("turn", source.choice(turns)), slot, ("mirror",)])


def beginnings():
    """Pairs of discs to begin with."""
    found = [([1], [0]), ([0], [MOST]), ([1, 0], [0, 1]), ([1, 1, 0, 1, 0, 0, 0], [1, 0, 0, 0, 0, 0, 0])]
    return found + [tuple(some_discs(2, slots, most)) for slots, most in ((2, 3), (5, 9), (12, 1), (39, 7), (40, MOST))]


class LiveTest(unittest.TestCase):
    def test_beginning(self):
        for disc, other in beginnings():
            self.assertEqual(state(LiveDiscs(disc, other)), plain_state(disc, other, []))

    def test_call_by_call(self):
        source = random.Random("live")
        for disc, other in beginnings():
            live, log = LiveDiscs(disc, other), []
            for _ in range(60):
                if log and source.random() < 0.3:
                    self.assertIsNone(live.undo())
                    log.pop()
                else:
                    call = some_call(len(disc), source)
                    self.assertIsNone(make_call(live, call))
                    log.append(call)
                with self.subTest(disc=disc, log=log):
                    self.assertEqual(state(live), plain_state(disc, other, log))

    def test_two_hundred_calls(self):
        source = random.Random("many")
        for disc, other in beginnings()[-2:]:
            live = LiveDiscs(disc, other)
            states = [state(live)]
            for _ in range(100):
                make_call(live, some_call(len(disc), source))
                states.append(state(live))
            self.assertEqual(states[-1], plain_state(disc, other, live.log))
            for wanted in states[-2::-1]:
                live.undo()
                self.assertEqual(state(live), wanted)
            with self.assertRaises(NothingToUndo):
                live.undo()
            self.assertEqual(state(live), states[0])

    def test_all_turns(self):
        for disc, other in beginnings():
            lights = plain_lights(disc, other)
            for turn in range(-len(disc) - 1, 2 * len(disc)):
                live = LiveDiscs(disc, other)
                live.turn_by(turn)
                self.assertEqual(live.turn, turn % len(disc))
                self.assertEqual(live.light, lights[turn % len(disc)])
                self.assertEqual(live.other, other)

    def test_the_turn_stays(self):
        live = LiveDiscs([1, 2, 3, 4, 5], [9, 8, 7, 6, 0])
        live.turn_by(12)
        live.mirror_other()
        self.assertEqual([live.other, live.turn], [[9, 0, 6, 7, 8], 2])
        live.set_slot(1, 3)
        self.assertEqual([live.other, live.turn], [[9, 3, 6, 7, 8], 2])
        live.turn_by(-GREAT * 5 - 2)
        self.assertEqual([live.other, live.turn], [[9, 3, 6, 7, 8], 0])

    def test_calls_that_change_nothing_are_calls(self):
        live = LiveDiscs([1], [5])
        for call in (("turn", 0), ("slot", 0, 5), ("mirror",), ("turn", GREAT)):
            make_call(live, call)
        self.assertEqual(live.log, [("turn", 0), ("slot", 0, 5), ("mirror",), ("turn", GREAT)])
        self.assertEqual(state(live)[:4], [[1], [5], 0, 5])
        self.assertEqual(len(live), 4)

    def test_undo_is_no_call(self):
        live = LiveDiscs([1, 0, 2], [3, 4, 5])
        live.turn_by(1)
        live.undo()
        self.assertEqual(live.log, [])
        live.mirror_other()
        live.undo()
        with self.assertRaises(NothingToUndo):
            live.undo()
        self.assertEqual(state(live), plain_state([1, 0, 2], [3, 4, 5], []))

    def test_no_references(self):
        disc, other = [1, 0, 2], [3, 4, 5]
        live = LiveDiscs(disc, other)
        disc[0], other[0] = 9, 9
        self.assertEqual(state(live), plain_state([1, 0, 2], [3, 4, 5], []))
        live.turn_by(1)
        one = [7, 7, 7]
        same = LiveDiscs(one, one)
        same.set_slot(0, 1)
        self.assertEqual([same.disc, same.other, one], [[7, 7, 7], [1, 7, 7], [7, 7, 7]])
        for name in ("disc", "other", "log"):
            before = state(live)
            found = getattr(live, name)
            self.assertIsNot(found, getattr(live, name))
            found.insert(0, "changed")
            self.assertEqual(state(live), before)
            live.undo()
            self.assertEqual(state(live), plain_state([1, 0, 2], [3, 4, 5], []))
            live.turn_by(1)
        self.assertEqual([disc, other], [[9, 0, 2], [9, 4, 5]])

    def test_kinds(self):
        live = LiveDiscs([1, 0], [0, 1])
        live.turn_by(-3)
        self.assertEqual([type(value) for value in state(live)], [list, list, int, int, list, int])
        self.assertEqual([type(call) for call in live.log], [tuple])

    def test_properties_are_not_assigned(self):
        live = LiveDiscs([1, 0], [0, 1])
        for name in ("disc", "other", "turn", "light", "log"):
            with self.assertRaises(AttributeError):
                setattr(live, name, [0, 0])


class ForkTest(unittest.TestCase):
    def test_forks_go_ways_of_their_own(self):
        source = random.Random("fork")
        for disc, other in beginnings():
            kept = [(LiveDiscs(disc, other), [])]
            for _ in range(40):
                live, log = source.choice(kept)
                if len(kept) < 6 and source.random() < 0.3:
                    kept.append((live.fork(), list(log)))
                elif log and source.random() < 0.4:
                    live.undo()
                    log.pop()
                else:
                    call = some_call(len(disc), source)
                    make_call(live, call)
                    log.append(call)
                for each, its_log in kept:
                    self.assertEqual(state(each), plain_state(disc, other, its_log))
                for one, log_one in kept:
                    for two, log_two in kept:
                        self.assertIs(one == two, log_one == log_two)
                        self.assertIs(one != two, log_one != log_two)

    def test_a_fork_takes_back_the_same_calls(self):
        live = LiveDiscs([1, 0, 2], [3, 4, 5])
        live.turn_by(2)
        live.set_slot(1, 7)
        live.mirror_other()
        two = live.fork()
        self.assertIsInstance(two, LiveDiscs)
        self.assertIsNot(two, live)
        for many in (2, 1, 0):
            two.undo()
            self.assertEqual(state(two), plain_state([1, 0, 2], [3, 4, 5], live.log[:many]))
        with self.assertRaises(NothingToUndo):
            two.undo()
        self.assertEqual(len(live), 3)
        self.assertEqual(state(live), plain_state([1, 0, 2], [3, 4, 5], live.log))

    def test_a_chain_of_forks(self):
        live = LiveDiscs([1, 0, 2], [3, 4, 5])
        for many in range(150):
            live = live.fork()
            live.turn_by(many)
        self.assertEqual(live.log, [("turn", many) for many in range(150)])
        for many in range(149, -1, -1):
            live = live.fork()
            live.undo()
            self.assertEqual(len(live), many)
        self.assertEqual(live, LiveDiscs([1, 0, 2], [3, 4, 5]))


class EqualTest(unittest.TestCase):
    def test_the_log_counts(self):
        one, two = LiveDiscs([1, 0, 2], [3, 4, 5]), LiveDiscs([1, 0, 2], [3, 4, 5])
        self.assertIs(one == two, True)
        one.turn_by(1)
        self.assertIs(one == two, False)
        two.turn_by(4)
        # The same state by another way.
        self.assertEqual(state(one)[:4], state(two)[:4])
        self.assertIs(one == two, False)
        two.undo()
        two.turn_by(1)
        self.assertIs(one == two, True)
        one.set_slot(0, 3)
        self.assertEqual(state(one)[:4], state(two)[:4])
        self.assertIs(one == two, False)
        one.undo()
        self.assertIs(one == two, True)
        self.assertIs(one != two, False)

    def test_the_beginning_counts(self):
        one, two, three = LiveDiscs([1, 0], [1, 0]), LiveDiscs([1, 0], [0, 0]), LiveDiscs([0, 1], [1, 0])
        for live in (one, two, three):
            live.set_slot(0, 1)
        self.assertEqual(state(one), state(two))
        self.assertIs(one == two, False)
        self.assertIs(one == three, False)
        # Turned at the beginning is another disc than turned by a call.
        four = LiveDiscs([1, 0], [0, 1])
        four.turn_by(1)
        self.assertEqual(four.light, LiveDiscs([1, 0], [1, 0]).light)
        self.assertIs(four == LiveDiscs([1, 0], [1, 0]), False)

    def test_other_values(self):
        class Any:
            def __eq__(self, other):
                return True

        live = LiveDiscs([1], [1])
        for value in (None, 0, 1, [1], ([1], [1]), state(live), "", {}, LiveDiscs, Any()):
            self.assertIs(live == value, False)
            self.assertIs(live != value, True)


class WrongTest(unittest.TestCase):
    def check_raises(self, error, fields, call, *values):
        with self.assertRaises(error) as caught:
            call(*values)
        self.assertIs(type(caught.exception), error)
        self.assertEqual(repr(vars(caught.exception)), repr(fields))

    def test_discs(self):
        for value, index in wrong_discs():
            self.check_raises(InvalidDisc, {"index": index}, LiveDiscs, value, [1, 0, 1, 0])
            self.check_raises(InvalidDisc, {"index": index}, LiveDiscs, value, None)
            self.check_raises(InvalidDisc, {"index": index}, LiveDiscs, value, [1, "x"])
        for value, index in wrong_others():
            self.check_raises(InvalidDisc, {"index": index}, LiveDiscs, [1, 0, 1, 0], value)
        # Its items are told ahead of its number of slots.
        self.check_raises(InvalidDisc, {"index": 1}, LiveDiscs, [1, 0, 1], [1, -1])
        self.check_raises(InvalidDisc, {"index": None}, LiveDiscs, [1, 0, 1], [1, 1])

    def test_wrong_arguments_stay(self):
        disc, other = [1, 0, 1], [1, -1]
        with self.assertRaises(InvalidDisc):
            LiveDiscs(disc, other)
        self.assertEqual([disc, other], [[1, 0, 1], [1, -1]])

    def test_refused_calls_change_nothing(self):
        live = LiveDiscs([1, 0, 2, 0], [3, 4, 5, 6])
        live.turn_by(3)
        live.set_slot(1, 7)
        before, same = copy.deepcopy(state(live)), live.fork()
        for value in NO_INTEGERS:
            self.check_raises(InvalidTurn, {}, live.turn_by, value)
            self.check_raises(InvalidSlot, {}, live.set_slot, value, 1)
            self.check_raises(InvalidSlot, {}, live.set_slot, value, None)
            self.check_raises(InvalidNumber, {}, live.set_slot, 0, value)
        for slot in (-1, 4, -4, 5, 10 ** 50, -10 ** 50):
            self.check_raises(InvalidSlot, {}, live.set_slot, slot, 1)
            self.check_raises(InvalidSlot, {}, live.set_slot, slot, -1)
        for light in (-1, MOST + 1, 10 ** 50, -10 ** 50):
            self.check_raises(InvalidNumber, {}, live.set_slot, 3, light)
        self.assertEqual(state(live), before)
        self.assertIs(live == same, True)
        live.set_slot(3, MOST)
        live.undo()
        live.undo()
        self.assertEqual(state(live), plain_state([1, 0, 2, 0], [3, 4, 5, 6], [("turn", 3)]))

    def test_nothing_to_undo(self):
        live = LiveDiscs([1, 0], [0, 1])
        self.check_raises(NothingToUndo, {}, live.undo)
        with self.assertRaises(InvalidTurn):
            live.turn_by(None)
        self.check_raises(NothingToUndo, {}, live.undo)
        live.turn_by(1)
        live.undo()
        self.check_raises(NothingToUndo, {}, live.undo)
        self.check_raises(NothingToUndo, {}, live.fork().undo)
        self.assertEqual(state(live), plain_state([1, 0], [0, 1], []))
