"""Texts of places and houses."""

from ledcalls.errors import NotUsable
from ledcalls.kinds import is_border, is_name, is_place, is_tuple_of
from ledcalls.linewords import name_word, setting_words
from ledcalls.sorting import is_ascending


def place_text(place):
    """Return the text of a place by form."""
    if not is_place(place):
        raise NotUsable("place", -1)
    return "\n".join(_place_lines(place))


def house_text(house):
    """Return the text of a triple by form, which may be no house."""
    if not is_form(house):
        raise NotUsable("house", -1)
    border, bars, places = house
    lines = [f"border {border[0]} {border[1]}"]
    for place in places:
        lines.extend(_place_lines(place))
    lines.extend([f"bar {called} {name}" for called, name in bars])
    return "\n".join(lines)


def is_form(thing):
    """Return whether any value is a triple of a border, a set of bars and places by form."""
    if not is_tuple_of(thing, 3) or not is_border(thing[0]) or not _is_bars(thing[1]):
        return False
    places = thing[2]
    if not isinstance(places, tuple) or places == ():
        return False
    return all([is_place(place) for place in places])


def _is_bars(thing):
    """Return whether any value is a set of pairs of names."""
    if not isinstance(thing, tuple) or not all([_is_names(pair) for pair in thing]):
        return False
    return is_ascending(thing)


def _is_names(thing):
    """Return whether any value is a pair of names."""
    return is_tuple_of(thing, 2) and is_name(thing[0]) and is_name(thing[1])


def _place_lines(place):
    """Return a list of the lines of a place."""
    word, name, side, *rest = place
    if word == "phone":
        shows, settings = rest
        return [f"phone {name} {side} {shows}", *[_setting_line(setting) for setting in settings]]
    if word == "group":
        shows, way, members, after = rest
        return [" ".join(["group", name, str(side), shows, way, name_word(after), *members])]
    return [f"box {name} {side}"]


def _setting_line(setting):
    """Return the line of a setting."""
    return " ".join(["setting", *setting_words(setting)])
