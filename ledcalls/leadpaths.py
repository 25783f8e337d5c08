"""Rings, numbers and ways of a set of leads; nothing is checked here."""

from ledcalls.plainparts import reached_by
from ledcalls.sorting import ascending


def rings_in(leads):
    """Return the set of all rings of the leads."""
    rings = []
    paths = [(lead,) for lead in leads]
    while paths:
        path = paths.pop()
        first, last = path[0][0], path[-1][2]
        if last == first:
            rings.append(path)
        # A ring begins with its least name: so no lesser one is come to on the way.
        elif last > first and last not in [name for name, _, _ in path]:
            paths.extend([(*path, lead) for lead in leads if lead[0] == last])
    return ascending(rings)


def numbered(leads, name):
    """Return the pair of a dict with the number of each name that can be come to, and the rest."""
    return numbered_among(leads, reached_by(leads, name))


def numbered_among(leads, names):
    """Return the pair of a dict with the number of each of the names, and the rest.

    The leads from these names go to these names alone. A number is how many leads can be gone at
    most. The rest are the names without a number: a ring can be come to from each of them.
    """
    left = names
    numbers = {}
    layer = 0
    while True:
        free = [one for one in left if not _goes_on(leads, one, left)]
        if not free:
            return (numbers, left)
        for one in free:
            numbers[one] = layer
        left = tuple([one for one in left if one not in numbers])
        layer = layer + 1


def _goes_on(leads, name, names):
    """Return whether a lead goes from the name to one of these names."""
    return any([start == name and target in names for start, _, target in leads])


def falling_pairs(leads, names):
    """Return the set of pairs of one of the names and its number, None if a ring can be come to.

    The leads from these names go to these names alone.
    """
    numbers, rest = numbered_among(leads, names)
    return None if rest else ascending(list(numbers.items()))


def round_way(leads, name):
    """Return leads, one behind the other, that go round from the name; () if none do."""
    _, rest = numbered(leads, name)
    way = []
    at = name
    while rest and at not in [lead[0] for lead in way]:
        # Each name of the rest has a lead to another one of them, or to itself.
        onward = [lead for lead in leads if lead[0] == at and lead[2] in rest]
        way.append(onward[0])
        at = onward[0][2]
    return tuple(way)
