"""Sets of pairs of the name of a phone and one of its settings."""

from ledcalls.kinds import is_one_of, is_setting_among, is_tuple_of
from ledcalls.plainparts import listed_phones
from ledcalls.sorting import is_ascending


def is_pair_set(house, thing):
    """Return whether any value is a set of pairs of a phone's name and one of its settings."""
    phones = {place[1]: place[4] for place in listed_phones(house)}
    if not isinstance(thing, tuple) or not all([_is_pair(pair, phones) for pair in thing]):
        return False
    return is_ascending(thing)


def _is_pair(thing, phones):
    """Return whether any value is a pair of a phone's name and one of its settings."""
    if not is_tuple_of(thing, 2) or not is_one_of(thing[0], phones):
        return False
    return is_setting_among(thing[1], phones[thing[0]])


def is_taking(house, thing):
    """Return whether any value is a set of such pairs that leaves each phone a setting."""
    return is_pair_set(house, thing) and leaves_settings(house, thing)


def leaves_settings(house, pairs):
    """Return whether each phone has a setting that is in none of the pairs."""
    return all([left_settings(place, pairs) != () for place in listed_phones(house)])


def without_one(pairs, k):
    """Return the pairs without the one at index k."""
    return (*pairs[:k], *pairs[k + 1:])


def left_settings(place, pairs):
    """Return the settings of a phone that are in none of the pairs."""
    return tuple([setting for setting in place[4] if (place[1], setting) not in pairs])
