"""Lists that are counted around, discs as well as rows, without any checks."""


def turned_list(items, turn):
    """Return the new list that has at i + turn what the list has at i."""
    size = len(items)
    return [items[(slot - turn) % size] for slot in range(size)]


def mirrored_list(items):
    """Return the new list that has at -i what the list has at i."""
    size = len(items)
    return [items[-slot % size] for slot in range(size)]


def light_between(disc, row, turn):
    """Return the sum of disc[i] * row[i - turn] over all slots i."""
    return sum([under * over for under, over in zip(disc, turned_list(row, turn))])


def lights_between(disc, row):
    """Return the new list of the lights at the turns 0, 1 and so on."""
    return [light_between(disc, row, turn) for turn in range(len(disc))]


def multiplied_list(items, factor):
    """Return the new list that has at factor * i what the list has at i.

    The factor has no divisor above 1 in common with the number of items.
    """
    size = len(items)
    found = list(items)
    for slot, item in enumerate(items):
        found[factor * slot % size] = item
    return found
