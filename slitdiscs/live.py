"""Live discs: a disc with another one over it that is turned and changed by calls."""

from slitdiscs.around import light_between, mirrored_list
from slitdiscs.checks import MOST_LIGHT, check_between, check_discs, check_slot, check_turn
from slitdiscs.errors import NothingToUndo


class LiveDiscs:
    """A disc with another one over it; each call to it can be taken back."""

    def __init__(self, disc, other):
        check_discs(disc, other)
        self._disc = list(disc)
        # The other disc and the turn, at first and behind each call that is not taken back.
        # The lists in it are never changed, so forks may share them.
        self._states = [(list(other), 0)]
        self._log = []

    @property
    def disc(self):
        """The disc below."""
        return list(self._disc)

    @property
    def other(self):
        """The other disc as it is when it is not turned."""
        return list(self._states[-1][0])

    @property
    def turn(self):
        """The present turn, from 0 to the number of slots less 1."""
        return self._states[-1][1]

    @property
    def light(self):
        """The light at the present turn."""
        other, turn = self._states[-1]
        return light_between(self._disc, other, turn)

    @property
    def log(self):
        """The calls that are not taken back, as tuples."""
        return list(self._log)

    def __len__(self):
        return len(self._log)

    def __eq__(self, other):
        return (
            isinstance(other, LiveDiscs)
            and self._disc == other._disc
            and self._states[0] == other._states[0]
            and self._log == other._log
        )

    def turn_by(self, turn):
        """Turn the other disc by so much more."""
        check_turn(turn)
        self._go_on(("turn", turn), self.other, self.turn + turn)

    def set_slot(self, slot, light):
        """Give a slot of the other disc another number."""
        check_slot(slot, len(self._disc))
        check_between(light, 0, MOST_LIGHT)
        other = self.other
        other[slot] = light
        self._go_on(("slot", slot, light), other, self.turn)

    def mirror_other(self):
        """Mirror the other disc as it is when it is not turned."""
        self._go_on(("mirror",), mirrored_list(self.other), self.turn)

    def undo(self):
        """Take back the last call that is not taken back yet."""
        if not self._log:
            raise NothingToUndo("no call is left to take back")
        self._log.pop()
        self._states.pop()

    def fork(self):
        """Return live discs in the same state that can take back the same calls."""
        live = LiveDiscs(self._disc, self._states[0][0])
        live._states = list(self._states)
        live._log = list(self._log)
        return live

    def _go_on(self, call, other, turn):
        self._log.append(call)
        self._states.append((other, turn % len(self._disc)))
