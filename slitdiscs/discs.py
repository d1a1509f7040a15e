"""Discs: what is one, turned and mirrored ones, and which ones are like."""

from slitdiscs.around import mirrored_list, turned_list
from slitdiscs.checks import check_disc, check_discs, check_turn, has_slots, wrong_slot


def is_disc(value):
    """Return whether any value is a disc."""
    return has_slots(value) and wrong_slot(value) is None


def is_slotted(value):
    """Return whether any value is a disc that has 0 and 1 alone."""
    return is_disc(value) and max(value) <= 1


def turned_disc(disc, turn):
    """Return the disc turned: at slot i + turn it has what the disc has at slot i."""
    check_disc(disc)
    check_turn(turn)
    return turned_list(disc, turn)


def mirrored_disc(disc):
    """Return the mirrored disc: at slot -i it has what the disc has at slot i."""
    check_disc(disc)
    return mirrored_list(disc)


def disc_period(disc):
    """Return the least turn from 1 on that leaves the disc as it is."""
    check_disc(disc)
    # The turn 0 does not count, so the search begins with the disc turned by 1.
    return 1 + _first_turn(turned_list(disc, 1), disc)


def turn_between(disc, other):
    """Return the least turn from 0 on by which the disc becomes the other one, or None."""
    check_discs(disc, other)
    return _first_turn(disc, other)


def least_disc(disc):
    """Return the least list among all turned ones."""
    check_disc(disc)
    return _least_turned(disc)


def like_form(disc):
    """Return the least list among all that are like the disc."""
    check_disc(disc)
    return _least_like(disc)


def are_like(disc, other):
    """Return whether one disc is the other one turned, or mirrored and then turned."""
    check_discs(disc, other)
    return _least_like(disc) == _least_like(other)


def _first_turn(disc, other):
    for turn in range(len(disc)):
        if turned_list(disc, turn) == other:
            return turn
    return None


def _least_turned(disc):
    return min([turned_list(disc, turn) for turn in range(len(disc))])


def _least_like(disc):
    return min(_least_turned(disc), _least_turned(mirrored_list(disc)))
