"""Two rings: discs of any numbers of slots that both go on by one slot each tick."""

from math import lcm

from slitdiscs.checks import check_count, check_disc, check_so_many_lights, check_number

MOST_RING_LIGHTS = 1600


def ring_light(disc, other, tick):
    """Return the light at a tick."""
    _check_rings(disc, other)
    check_count(tick)
    return disc[tick % len(disc)] * other[tick % len(other)]


def ring_sum(disc, other, first, many):
    """Return the sum of the lights of so many ticks, from the first one on."""
    _check_rings(disc, other)
    check_count(first)
    check_count(many)
    lights = _lights_from(disc, other, first)
    rounds, rest = divmod(many, len(lights))
    return rounds * sum(lights) + sum(lights[:rest])


def first_tick(disc, other, first, light):
    """Return the least tick from the first one on with so much light, or None."""
    _check_rings(disc, other)
    check_count(first)
    check_number(light)
    for later, present in enumerate(_lights_from(disc, other, first)):
        if present >= light:
            return first + later
    return None


def dark_stretch(disc, other):
    """Return the greatest number of ticks one behind the other without light, None if none has light."""
    _check_rings(disc, other)
    lights = _lights_from(disc, other, 0)
    if not any(lights):
        return None
    longest = stretch = 0
    # A stretch may go on behind the end of a round.
    for light in lights + lights:
        stretch = 0 if light else stretch + 1
        longest = max(longest, stretch)
    return longest


def tick_of(disc, other, lights):
    """Return the least tick at which these lights begin, or None."""
    _check_rings(disc, other)
    check_so_many_lights(lights, 1, MOST_RING_LIGHTS)
    whole = _lights_from(disc, other, 0)
    # As many rounds as the lights go over if they begin at the last tick of one.
    rounds = whole * (2 + len(lights) // len(whole))
    for tick in range(len(whole)):
        if rounds[tick:tick + len(lights)] == lights:
            return tick
    return None


def unlike_ticks(disc, other):
    """Return the least length with which the lists of lights from all ticks are unlike, or None."""
    _check_rings(disc, other)
    lights = _lights_from(disc, other, 0)
    doubled = _doubled_kinds(lights)
    if not _are_unlike(doubled[-1]):
        return None
    # The greatest length with which two lists are alike, from its highest binary digit on.
    length, kinds = 0, [0] * len(lights)
    for power in range(len(doubled) - 1, -1, -1):
        longer = _joined_kinds(kinds, doubled[power], length)
        if not _are_unlike(longer):
            length, kinds = length + (1 << power), longer
    return length + 1


def _check_rings(disc, other):
    check_disc(disc)
    check_disc(other)


def _lights_from(disc, other, first):
    # The lights of a round: behind it the same ones come again.
    ticks = lcm(len(disc), len(other))
    return [disc[(first + tick) % len(disc)] * other[(first + tick) % len(other)] for tick in range(ticks)]


def _doubled_kinds(lights):
    # The kinds of the lists of 1, 2, 4 and so on lights, up to those of a round at least:
    # lists that begin at two ticks and are alike for a whole round stay alike.
    doubled = [_numbered_kinds(lights)]
    length = 1
    while length < len(lights):
        doubled.append(_joined_kinds(doubled[-1], doubled[-1], length))
        length += length
    return doubled


def _joined_kinds(kinds, more, length):
    # The kinds of lists that have one part of so many lights and one more part behind it.
    size = len(kinds)
    return _numbered_kinds([(kinds[tick], more[(tick + length) % size]) for tick in range(size)])


def _numbered_kinds(parts):
    # For each tick a number: the same one where the parts are alike, another one where they are not.
    known = {}
    for part in parts:
        known.setdefault(part, len(known))
    return [known[part] for part in parts]


def _are_unlike(kinds):
    return len(set(kinds)) == len(kinds)
