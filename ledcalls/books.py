"""Books: tuples with one of the settings of each phone, in the order of the places."""

from ledcalls.kinds import is_setting_among, is_tuple_of
from ledcalls.plainparts import listed_phones


def is_book(house, thing):
    """Return whether any value is a book of a house."""
    phones = listed_phones(house)
    return is_tuple_of(thing, len(phones)) and first_odd_setting(phones, thing) is None


def first_odd_setting(phones, settings):
    """Return the index of the first value that is none of its phone's settings, or None."""
    for k, phone in enumerate(phones):
        if not is_setting_among(settings[k], phone[4]):
            return k
    return None


def chosen_places(house, book):
    """Return the places of a house, with the setting in the book alone for each phone."""
    phones = listed_phones(house)
    chosen = {phone[1]: setting for phone, setting in zip(phones, book)}
    return tuple([_chosen(place, chosen) for place in house[2]])


def _chosen(place, chosen):
    """Return the place; a phone has its chosen setting alone."""
    return (*place[:4], (chosen[place[1]],)) if place[0] == "phone" else place
