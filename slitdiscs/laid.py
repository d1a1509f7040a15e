"""Laid discs: what discs make that are laid around one another."""

from slitdiscs.around import lights_between, mirrored_list, multiplied_list
from slitdiscs.checks import check_disc, check_discs, check_factor, check_slotted
from slitdiscs.reading import read_row


def laid_disc(disc, other):
    """Return one disc laid around another one."""
    check_discs(disc, other)
    # The slots k and i - k are over one another if the other disc is mirrored and then turned by i.
    return lights_between(disc, mirrored_list(other))


def shut_disc(disc):
    """Return a slotted disc with 0 and 1 exchanged."""
    check_slotted(disc)
    return [1 - item for item in disc]


def other_part(disc, part):
    """Return the row of integers that makes the disc if it is laid around the telling part, or None."""
    check_discs(disc, part)
    # As in laid_disc, the disc is the lights of the part with the mirrored row.
    row = read_row(part, disc)
    return None if row is None else mirrored_list(row)


def multiplied_disc(disc, factor):
    """Return the disc that has at slot factor * i what the disc has at slot i."""
    check_disc(disc)
    check_factor(factor, len(disc))
    return multiplied_list(disc, factor)
