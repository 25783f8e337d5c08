"""Parts of houses: places, phones, leads, and what can be come to."""

from ledcalls.needs import need_hour, need_house, need_name
from ledcalls.plainparts import (
    find_place, leads_in, listed_names, listed_phones, phones_within, reached_by, table_of)


def names_in(house):
    """Return the names of the places, in their order."""
    need_house(house)
    return listed_names(house)


def phones_in(house):
    """Return the names of the phones, in the order of the places."""
    need_house(house)
    return tuple([place[1] for place in listed_phones(house)])


def place_of(house, name):
    """Return the place of this name."""
    need_house(house)
    need_name(house, name)
    return find_place(house, name)


def settings_of(house, name):
    """Return the settings of the phone of this name."""
    need_house(house)
    need_name(house, name, kinds=("phone",))
    return find_place(house, name)[4]


def phones_of(house, name):
    """Return the names of the phones of the group of this name."""
    need_house(house)
    need_name(house, name, kinds=("group",))
    return phones_within(table_of(house), name)


def side_of(house, name):
    """Return the side of the place of this name."""
    need_house(house)
    need_name(house, name)
    return find_place(house, name)[2]


def leads_of(house, hour):
    """Return the set of the leads in this hour."""
    need_house(house)
    need_hour(hour)
    return leads_in(house, hour)


def come_to(house, name, hour):
    """Return the set of the name and of all names to which leads of this hour go from it."""
    need_house(house)
    need_name(house, name)
    need_hour(hour)
    return reached_by(leads_in(house, hour), name)
