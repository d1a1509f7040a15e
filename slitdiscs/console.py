"""A console: live discs that are told commands of words and answer in words."""

from slitdiscs.errors import Impossible, InvalidCommand, InvalidSyntax
from slitdiscs.hidden import blind_divisors, hidden_count
from slitdiscs.lights import all_lights, brightest_turns
from slitdiscs.live import LiveDiscs
from slitdiscs.reading import reading_row
from slitdiscs.texts import parse_disc
from slitdiscs.twins import own_lights
from slitdiscs.words import count_in, number_in, number_text, numbers_text


def _light(live):
    return number_text(live.light)


def _lights(live):
    return numbers_text(all_lights(live.disc, live.other))


def _bright(live):
    return numbers_text(brightest_turns(live.disc, live.other))


def _own(live):
    return numbers_text(own_lights(live.disc))


def _hidden(live):
    return number_text(hidden_count(live.disc))


def _blind(live):
    divisors = blind_divisors(live.disc)
    return numbers_text(divisors) if divisors else "none"


def _reading(live):
    try:
        row, bottom = reading_row(live.disc)
    except Impossible:
        return "none"
    return f"{numbers_text(row)} / {number_text(bottom)}"


_ANSWERS = {
    "light": _light, "lights": _lights, "bright": _bright, "own": _own,
    "hidden": _hidden, "blind": _blind, "reading": _reading,
}


class Console:
    """Live discs, at first of one slot, that are told commands."""

    def __init__(self):
        self._live = LiveDiscs([1], [1])

    def execute(self, command):
        """Carry out a command and return its answer."""
        if not isinstance(command, str):
            raise InvalidCommand("a command is a string")
        if command in _ANSWERS:
            answer = _ANSWERS[command]
            return answer(self._live)
        words = command.split(" ")
        self._change(words[0], words[1:])
        return "ok"

    def _change(self, name, words):
        if name == "disc":
            disc = _disc_in(words)
            self._live = LiveDiscs(disc, disc)
        elif name == "other":
            self._live = LiveDiscs(self._live.disc, _disc_in(words))
        elif name == "turn":
            self._live.turn_by(_turn_in(words))
        elif name == "slot":
            slot, light = _slot_and_light_in(words)
            self._live.set_slot(slot, light)
        elif name == "mirror" and not words:
            self._live.mirror_other()
        elif name == "undo" and not words:
            self._live.undo()
        else:
            raise InvalidCommand("there is no such command")


def _disc_in(words):
    try:
        return parse_disc(" ".join(words))
    except InvalidSyntax:
        raise InvalidCommand("the words are no disc") from None


def _turn_in(words):
    turn = number_in(words[0]) if len(words) == 1 else None
    if turn is None:
        raise InvalidCommand("the words are no turn")
    return turn


def _slot_and_light_in(words):
    numbers = [count_in(word) for word in words]
    if len(numbers) != 2 or None in numbers:
        raise InvalidCommand("the words are no slot and light")
    return numbers[0], numbers[1]
