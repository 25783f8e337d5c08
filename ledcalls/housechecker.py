"""The checker of houses."""

from ledcalls.errors import InvalidPaper
from ledcalls.kinds import is_border, is_one_of, is_place, is_tuple_of


def is_house(thing):
    """Return whether any value is a house."""
    try:
        lets_house(thing)
    except InvalidPaper:
        return False
    return True


def lets_house(thing):
    """Return how many places a house has; InvalidPaper tells why any other value is none."""
    if not _has_shape(thing):
        raise InvalidPaper("shape", -1)
    border, bars, places = thing
    if not is_border(border):
        raise InvalidPaper("border", -1)
    _let_places(places)
    kinds = {place[1]: place[0] for place in places}
    for k, place in enumerate(places):
        _let_links(k, place, kinds)
    _let_groups(places)
    _let_bars(bars, kinds)
    return len(places)


def _has_shape(thing):
    """Return whether thing is a triple of a pair, a tuple and a nonempty tuple."""
    if not is_tuple_of(thing, 3) or not is_tuple_of(thing[0], 2):
        return False
    return isinstance(thing[1], tuple) and isinstance(thing[2], tuple) and thing[2] != ()


def _let_places(places):
    """Raise InvalidPaper for the first value that is no place, or has the name of an earlier one."""
    names = [place[1] if is_place(place) else "" for place in places]
    # Going backwards leaves the first index of each name.
    firsts = {names[k]: k for k in range(len(names) - 1, -1, -1)}
    for k, name in enumerate(names):
        if name == "":
            raise InvalidPaper("place", k)
        if firsts[name] < k:
            raise InvalidPaper("twice", k)


def _let_links(k, place, kinds):
    """Raise InvalidPaper for the first name in a place that may not stand there."""
    if place[0] == "phone":
        for s, setting in enumerate(place[4]):
            if not all([_is_known(name, kinds) for name in setting[1:]]):
                raise InvalidPaper("setting", (k, s))
    if place[0] == "group":
        for m, member in enumerate(place[5]):
            if kinds.get(member) not in ("phone", "group"):
                raise InvalidPaper("member", (k, m))
        if not _is_known(place[6], kinds):
            raise InvalidPaper("after", k)


def _is_known(name, kinds):
    """Return whether a name is empty or that of a place."""
    return name == "" or name in kinds


def _let_groups(places):
    """Raise InvalidPaper for the first group that is within itself."""
    groups = {place[1]: place[5] for place in places if place[0] == "group"}
    for k, place in enumerate(places):
        if place[0] == "group" and place[1] in _names_within(groups, place[1]):
            raise InvalidPaper("within", k)


def _names_within(groups, name):
    """Return a dict of the names of the members of a group, of theirs, and so on."""
    found = {}
    waiting = [*groups[name]]
    while waiting:
        member = waiting.pop()
        if member not in found:
            found[member] = True
            waiting.extend(groups.get(member, ()))
    return found


def _let_bars(bars, kinds):
    """Raise InvalidPaper for the first value that is no bar, or not greater than the one before."""
    for n, bar in enumerate(bars):
        if not is_bar(bar, kinds) or (n > 0 and not bars[n - 1] < bar):
            raise InvalidPaper("bars", n)


def is_bar(thing, kinds):
    """Return whether any value is a pair of the name of a place and that of a phone or box."""
    if not is_tuple_of(thing, 2) or not is_one_of(thing[0], kinds):
        return False
    return is_one_of(thing[1], kinds) and kinds[thing[1]] in ("phone", "box")
