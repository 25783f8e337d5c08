"""Lines of calls."""

from ledcalls.callneeds import need_call
from ledcalls.plainparts import listed_phones


def call_text(house, call):
    """Return the line of the call."""
    need_call(house, call)
    called, hour, book, standings = call
    return " ".join([called, str(hour), *phone_words(house, book, standings)])


def phone_words(house, book, standings):
    """Return a list of the word of each phone, of its setting and its standing; nothing is checked."""
    phones = listed_phones(house)
    return [
        f"{phone[4].index(setting)}:{standing}"
        for phone, setting, standing in zip(phones, book, standings)]
