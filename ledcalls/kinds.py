"""The forms of values: each function accepts any value, whatever a house has."""

from ledcalls.sorting import is_ascending

STANDINGS = ("answers", "unheard", "busy", "off")
WAYS = ("together", "turns")
HARMS = ("round", "twice", "lost", "barred")
SHOWS = ("own", "kept")
EDGES = ("kept", "lost")
LETTERS = "abcdefghijklmnopqrstuvwxyz"
HOURS = (0, 1, 2, 3, 4, 5, 6, 7, 8, 9, 10, 11, 12, 13, 14, 15, 16, 17, 18, 19, 20, 21, 22, 23)


def is_integer(thing):
    """Return whether thing is an int that is no bool."""
    return isinstance(thing, int) and not isinstance(thing, bool)


def is_number(thing):
    """Return whether thing is an integer that is at least 0."""
    return is_integer(thing) and thing >= 0


def is_name(thing):
    """Return whether thing has one to eight lowercase letters."""
    if not isinstance(thing, str) or not 1 <= len(thing) <= 8:
        return False
    return all([letter in LETTERS for letter in thing])


def is_hour(thing):
    """Return whether thing is a number up to 23."""
    return is_number(thing) and thing <= 23


def is_hours(thing):
    """Return whether thing is a set of hours."""
    if not isinstance(thing, tuple) or not all([is_hour(hour) for hour in thing]):
        return False
    return is_ascending(thing)


def is_side(thing):
    """Return whether thing is one of the two sides."""
    return is_integer(thing) and thing in (0, 1)


def is_one_of(thing, words):
    """Return whether thing is one of the words."""
    return isinstance(thing, str) and thing in words


def is_harms(thing):
    """Return whether thing is a tuple of different harms."""
    if not isinstance(thing, tuple) or not all([is_one_of(harm, HARMS) for harm in thing]):
        return False
    return len({harm: True for harm in thing}) == len(thing)


def is_tuple_of(thing, many):
    """Return whether thing is a tuple of so many values."""
    return isinstance(thing, tuple) and len(thing) == many


def is_border(thing):
    """Return whether thing is a border."""
    return is_tuple_of(thing, 2) and all([is_one_of(edge, EDGES) for edge in thing])


def is_link(thing):
    """Return whether thing is a name or the empty string."""
    return is_name(thing) or is_one_of(thing, ("",))


def is_setting(thing):
    """Return whether thing is a setting by form."""
    if not is_tuple_of(thing, 5) or not is_hours(thing[0]):
        return False
    if not all([is_link(name) for name in thing[1:]]):
        return False
    return (thing[0] == ()) == (thing[1] == "")


def is_settings(thing):
    """Return whether thing is a nonempty set of settings by form."""
    if not isinstance(thing, tuple) or thing == ():
        return False
    return all([is_setting(setting) for setting in thing]) and is_ascending(thing)


def is_setting_among(thing, settings):
    """Return whether thing is one of these settings."""
    # An hour may be True, which Python holds for 1: so the form is looked at first.
    return is_setting(thing) and thing in settings


def is_place(thing):
    """Return whether thing is a place by form."""
    if not isinstance(thing, tuple) or len(thing) < 3:
        return False
    if not is_name(thing[1]) or not is_side(thing[2]):
        return False
    return _is_phone(thing) or _is_group(thing) or _is_box(thing)


def _is_phone(thing):
    """Return whether a tuple with a name and a side is a phone by form."""
    if thing[0] != "phone" or len(thing) != 5:
        return False
    return is_one_of(thing[3], SHOWS) and is_settings(thing[4])


def _is_group(thing):
    """Return whether a tuple with a name and a side is a group by form."""
    if thing[0] != "group" or len(thing) != 7:
        return False
    if not is_one_of(thing[3], SHOWS) or not is_one_of(thing[4], WAYS):
        return False
    return _is_members(thing[5]) and is_link(thing[6])


def _is_box(thing):
    """Return whether a tuple with a name and a side is a box by form."""
    return thing[0] == "box" and len(thing) == 3


def _is_members(thing):
    """Return whether thing is a nonempty tuple of different names."""
    if not isinstance(thing, tuple) or thing == ():
        return False
    if not all([is_name(name) for name in thing]):
        return False
    return len({name: True for name in thing}) == len(thing)
