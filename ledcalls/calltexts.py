"""Lines of calls."""

from ledcalls.callneeds import need_call
from ledcalls.plainparts import listed_phones


def call_text(house, call):
    """Return the line of the call."""
    need_call(house, call)
    called, hour, book, standings = call
    phones = listed_phones(house)
    pairs = [
        f"{phone[4].index(setting)}:{standing}"
        for phone, setting, standing in zip(phones, book, standings)]
    return " ".join([called, str(hour), *pairs])
