"""[28], [29]: the console, held against the functions and live discs behind it."""

import random
import unittest

from slitdiscs.console import Console
from slitdiscs.errors import DiscError, InvalidCommand, InvalidDisc, InvalidNumber, InvalidSlot, NothingToUndo
from slitdiscs.hidden import blind_divisors, hidden_count, is_telling
from slitdiscs.lights import all_lights, brightest_turns
from slitdiscs.live import LiveDiscs
from slitdiscs.reading import reading_row
from slitdiscs.texts import format_disc, format_row
from slitdiscs.twins import own_lights
from tests.samples import MOST, some_discs

GREATEST = 10 ** 40 - 1
QUESTIONS = ["light", "lights", "bright", "own", "hidden", "blind", "reading"]
NO_COMMANDS = [
    "", " ", "x", "ok", "none", "Light", "LIGHT", "light ", " light", "light 0", "lights\n", "\nlight", "light\nlight",
    "lights all", "bright 1", "own 1", "hidden 0", "blind none", "reading /", "light  ", "own own",
    "disc", "disc ", "disc  1", "disc 1 ", "disc x", "disc -1", "disc 1 -1", "disc 01", "disc 1.0", "disc 1,0", "disc\n1",
    "disc [1, 0]", "disc 1  0", "disc +1", "disc 1_0", f"disc {MOST + 1}", "disc " + " ".join(["1"] * 41), "disc disc 1",
    "Disc 1", " disc 1", "disc1", "disc 1\n",
    "other", "other ", "other x", "other -1", "other 1 x", f"other 0 {MOST + 1}", "other 1  1", "other " + "1 " * 40,
    "other " + " ".join(["0"] * 41), "other 00",
    "turn", "turn ", "turn x", "turn 1 2", "turn +1", "turn -0", "turn 01", "turn 1.5", "turn  1", "turn 1 ", "turn -",
    f"turn {GREATEST + 1}", f"turn -{GREATEST + 1}", "turn by 1", "turn 1\n", "turns 1", "turn 1_0", "turn --1",
    "slot", "slot ", "slot 0", "slot 0 ", "slot 0 1 2", "slot x 1", "slot 0 x", "slot -1 1", "slot 0 -1", "slot 0 +1",
    "slot 00 1", "slot 0 01", "slot -0 1", "slot 0 -0", "slot  0 1", "slot 0  1", "slot 0=1", f"slot 0 {GREATEST + 1}",
    f"slot {GREATEST + 1} 0", "slot 0 1\n",
    "mirror ", "mirror x", "mirror 1", " mirror", "mirror mirror", "undo ", "undo 1", "undo undo", "Undo", "redo", "fork",
    "x" * 10000, "disc " + "1 " * 4000, " " * 10000, "\n" * 10000, "turn " + "1" * 9000,
]


def plain_answers(live):
    """What a console with these live discs answers to all questions."""
    disc, other = live.disc, live.other
    reading = "none"
    if is_telling(disc):
        row, bottom = reading_row(disc)
        reading = f"{format_row(row)} / {bottom}"
    return [
        str(live.light), format_row(all_lights(disc, other)), format_row(brightest_turns(disc, other)),
        format_row(own_lights(disc)), str(hidden_count(disc)), format_row(blind_divisors(disc)) or "none", reading,
    ]


def answers(console):
    return [console.execute(question) for question in QUESTIONS]


def some_command(live, source):
    """A command that changes, and its call: it returns new live discs, or None if it changes these."""
    slots = len(live.disc)
    kind = source.choice(["disc", "other", "turn", "turn", "slot", "slot", "mirror", "undo", "undo"])
    if kind == "disc":
        disc = some_discs(1, source.randint(1, 9), source.choice([1, 1, 3, MOST]))[0]
        return f"disc {format_disc(disc)}", lambda: LiveDiscs(disc, disc)
    if kind == "other":
        other = some_discs(source.randint(1, 5), slots, source.choice([1, 4, MOST]))[-1]
        return f"other {format_disc(other)}", lambda: LiveDiscs(live.disc, other)
    if kind == "turn":
        turn = source.choice([0, 1, -1, source.randint(-99, 99), source.randint(-GREATEST, GREATEST)])
        return f"turn {turn}", lambda: live.turn_by(turn)
    if kind == "slot":
        slot, light = source.randint(0, slots), source.choice([0, 1, 7, MOST, MOST + 1])
        return f"slot {slot} {light}", lambda: live.set_slot(slot, light)
    return kind, live.mirror_other if kind == "mirror" else live.undo


class ConsoleTest(unittest.TestCase):
    def check_raises(self, console, command, error, fields):
        with self.subTest(command=command):
            with self.assertRaises(error) as caught:
                console.execute(command)
            self.assertIs(type(caught.exception), error)
            self.assertEqual(vars(caught.exception), fields)

    def test_beginning(self):
        self.assertEqual(answers(Console()), ["1", "1", "0", "1", "0", "none", "1 / 1"])
        self.assertEqual(answers(Console()), plain_answers(LiveDiscs([1], [1])))

    def test_as_live_discs(self):
        source = random.Random("console")
        console, live = Console(), LiveDiscs([1], [1])
        refused = 0
        for _ in range(190):
            command, call = some_command(live, source)
            try:
                begun = call()
                live = live if begun is None else begun
            except DiscError as error:
                refused += 1
                self.check_raises(console, command, type(error), vars(error))
            else:
                self.assertEqual(console.execute(command), "ok")
            with self.subTest(command=command):
                self.assertEqual(answers(console), plain_answers(live))
        self.assertGreater(refused, 5)

    def test_all_undone(self):
        console = Console()
        console.execute("disc 3 1 4 1 5")
        console.execute("other 9 2 6 5 3")
        commands = ["turn 3", "slot 2 0", "mirror", "turn -11", "slot 4 99", "mirror", f"turn {GREATEST}", "slot 0 0"]
        seen = [answers(console)]
        for command in commands:
            self.assertEqual(console.execute(command), "ok")
            seen.append(answers(console))
        for wanted in seen[-2::-1]:
            self.assertEqual(console.execute("undo"), "ok")
            self.assertEqual(answers(console), wanted)
        self.check_raises(console, "undo", NothingToUndo, {})
        self.assertEqual(answers(console), seen[0])

    def test_new_discs_cannot_be_taken_back(self):
        console = Console()
        console.execute("turn 1")
        for command in ("disc 1 0 2", "other 0 5 0"):
            console.execute("turn 1")
            console.execute(command)
            self.check_raises(console, "undo", NothingToUndo, {})
        self.assertEqual(console.execute("light"), "0")
        console.execute("turn 1")
        self.assertEqual(console.execute("light"), "10")
        console.execute("other 1 0 0")
        self.assertEqual(console.execute("light"), "1")

    def test_both_discs_are_the_new_one(self):
        console = Console()
        console.execute("disc 1 2 0")
        self.assertEqual(console.execute("light"), "5")
        console.execute("slot 2 7")
        # The first disc stays.
        self.assertEqual(answers(console)[3], "5 2 2")
        console.execute("other 1 0 0")
        self.assertEqual(console.execute("lights"), "1 2 0")

    def test_the_present_turn_does_not_matter(self):
        console = Console()
        console.execute("disc 1 1 0 1 0 0 0")
        console.execute("other 2 0 1 0 0 0 0")
        before = answers(console)[1:]
        console.execute("turn 4")
        self.assertEqual(answers(console)[1:], before)
        self.assertEqual(before[:2], ["2 3 0 2 0 1 1", "1"])
        self.assertEqual(console.execute("light"), "0")

    def test_great_discs(self):
        for disc in ([MOST] * 40, [0] * 39 + [MOST], *some_discs(1, 40, MOST), *some_discs(2, 37, 1), [0] * 40):
            console, live = Console(), LiveDiscs(disc, disc)
            self.assertEqual(console.execute("disc " + format_disc(disc)), "ok")
            self.assertEqual(answers(console), plain_answers(live))
            console.execute(f"turn -{GREATEST}")
            console.execute(f"slot 5 {MOST}")
            live.turn_by(-GREATEST)
            live.set_slot(5, MOST)
            self.assertEqual(answers(console), plain_answers(live))

    def test_consoles_are_apart(self):
        one, two = Console(), Console()
        one.execute("disc 0 1")
        self.assertEqual(answers(two), answers(Console()))
        self.assertEqual(one.execute("lights"), "1 0")


class WrongTest(unittest.TestCase):
    check_raises = ConsoleTest.check_raises

    def console(self):
        console = Console()
        for command in ("disc 5 0 2 0", "other 1 3 0 0", "turn 7", "slot 2 6", "mirror"):
            console.execute(command)
        return console

    def test_no_commands(self):
        console = self.console()
        before = answers(console)
        for command in NO_COMMANDS:
            self.check_raises(console, command, InvalidCommand, {})
        for value in (None, True, 0, 1.5, b"light", ["light"], ("light",), [], {}, {"light"}, object()):
            self.check_raises(console, value, InvalidCommand, {})
        self.assertEqual(answers(console), before)
        for _ in range(3):
            console.execute("undo")
        self.check_raises(console, "undo", NothingToUndo, {})

    def test_errors_of_the_calls(self):
        console = self.console()
        before = answers(console)
        for command in ("other 1 0", "other 1", "other 1 0 0 0 0", "other " + " ".join(["1"] * 40)):
            self.check_raises(console, command, InvalidDisc, {"index": None})
        for command in ("slot 9 1", "slot 4 0", f"slot {GREATEST} {GREATEST}", f"slot 4 {MOST + 1}"):
            self.check_raises(console, command, InvalidSlot, {})
        for command in (f"slot 0 {MOST + 1}", f"slot 3 {GREATEST}"):
            self.check_raises(console, command, InvalidNumber, {})
        self.assertEqual(answers(console), before)
        self.assertEqual(console.execute(f"slot 3 {MOST}"), "ok")

    def test_refused_commands_between_others(self):
        console, plain = Console(), Console()
        wrong = ["disc 1 x", "other 1 0 0 0 0 0 0 0 0", "turn x", "slot 99 0", f"slot 0 {MOST + 1}", "mirror 1", "undo 1", ""]
        for command in ("disc 1 1 0 1", "turn 1", "other 3 0 0 4", "slot 1 2", "mirror", "turn -2", "undo", "undo"):
            for refused in wrong:
                with self.assertRaises(DiscError):
                    console.execute(refused)
            self.assertEqual(console.execute(command), "ok")
            plain.execute(command)
            self.assertEqual(answers(console), answers(plain))
