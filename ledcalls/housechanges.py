"""Changed houses."""

from ledcalls.errors import NotUsable
from ledcalls.housechecker import is_bar, lets_house
from ledcalls.kinds import is_border, is_name, is_number, is_place, is_settings, is_side
from ledcalls.needs import need_house, need_name
from ledcalls.plainparts import kind_named
from ledcalls.settingpairs import is_taking, left_settings
from ledcalls.sorting import ascending, is_ascending


def with_place(house, place, *, spot=None):
    """Return the house with this place, too, at the index spot or after all others."""
    need_house(house)
    if not is_place(place) or kind_named(house, place[1]) != "":
        raise NotUsable("place", -1)
    border, bars, places = house
    if spot is not None and (not is_number(spot) or spot > len(places)):
        raise NotUsable("spot", -1)
    at = len(places) if spot is None else spot
    return _let((border, bars, (*places[:at], place, *places[at:])))


def without_place(house, name):
    """Return the house without this place, and without the bars that have its name."""
    need_house(house)
    need_name(house, name)
    border, bars, places = house
    if len(places) == 1:
        raise NotUsable("name", -1)
    left_bars = tuple([bar for bar in bars if name not in bar])
    left_places = tuple([place for place in places if place[1] != name])
    return _let((border, left_bars, left_places))


def with_settings(house, name, settings):
    """Return the house in which this phone has these settings."""
    need_house(house)
    need_name(house, name, kinds=("phone",))
    if not is_settings(settings):
        raise NotUsable("settings", -1)
    border, bars, places = house
    changed = [_set(place, settings) if place[1] == name else place for place in places]
    return _let((border, bars, tuple(changed)))


def without_settings(house, taken):
    """Return the house without the settings of these pairs."""
    need_house(house)
    if not is_taking(house, taken):
        raise NotUsable("taken", -1)
    border, bars, places = house
    return (border, bars, tuple([_left(place, taken) for place in places]))


def _let(house):
    """Return what is a house; InvalidPaper tells why any other value is none."""
    lets_house(house)
    return house


def _set(place, settings):
    """Return the phone with these settings."""
    return (*place[:4], settings)


def _left(place, taken):
    """Return the place without the settings that are taken out."""
    return _set(place, left_settings(place, taken)) if place[0] == "phone" else place


def with_bars(house, bars):
    """Return the house with these bars instead."""
    need_house(house)
    if not _is_bars(house, bars):
        raise NotUsable("bars", -1)
    return (house[0], bars, house[2])


def _is_bars(house, thing):
    """Return whether any value is a set of bars of names of the house."""
    kinds = {place[1]: place[0] for place in house[2]}
    if not isinstance(thing, tuple) or not all([is_bar(bar, kinds) for bar in thing]):
        return False
    return is_ascending(thing)


def with_border(house, border):
    """Return the house with this border."""
    need_house(house)
    if not is_border(border):
        raise NotUsable("border", -1)
    return (border, house[1], house[2])


def moved(house, name, side):
    """Return the house in which this place is on this side."""
    need_house(house)
    need_name(house, name)
    if not is_side(side):
        raise NotUsable("side", -1)
    border, bars, places = house
    changed = [(*place[:2], side, *place[3:]) if place[1] == name else place for place in places]
    return (border, bars, tuple(changed))


def renamed(house, old, new):
    """Return the house in which the place old is called new, everywhere."""
    need_house(house)
    need_name(house, old, word="old")
    if not is_name(new) or (new != old and kind_named(house, new) != ""):
        raise NotUsable("new", -1)
    border, bars, places = house
    new_bars = ascending([_names_changed(bar, old, new) for bar in bars])
    return (border, new_bars, tuple([_renamed_place(place, old, new) for place in places]))


def _name_changed(name, old, new):
    """Return the name, or new for the name old."""
    return new if name == old else name


def _names_changed(names, old, new):
    """Return the names with new in the place of old."""
    return tuple([_name_changed(name, old, new) for name in names])


def _renamed_place(place, old, new):
    """Return the place with new in the place of old, as its own name, too."""
    word, name, side, *rest = place
    called = _name_changed(name, old, new)
    if word == "phone":
        shows, settings = rest
        changed = [(setting[0], *_names_changed(setting[1:], old, new)) for setting in settings]
        return (word, called, side, shows, ascending(changed))
    if word == "group":
        shows, way, members, after = rest
        changed = _names_changed(members, old, new)
        return (word, called, side, shows, way, changed, _name_changed(after, old, new))
    return (word, called, side)
