"""What is told back by who was rung: the ends of calls, and calls."""

from ledcalls.backsearch import fitting_calls
from ledcalls.errors import NotUsable
from ledcalls.kinds import is_one_of
from ledcalls.needs import need_called, need_hour, need_house
from ledcalls.plainparts import listed_phones
from ledcalls.sorting import ascending
from ledcalls.trails import unlike_hours


def ends_back(house, called, rung, *, hour=None):
    """Return the set of the ends of all calls to called along which just these are rung."""
    _need_all(house, called, rung, hour)
    found = {}
    for asked in _hours_asked(house, hour):
        for end in fitting_calls(house, called, asked, rung):
            found[end] = True
    return ascending(list(found))


def call_back(house, called, rung, *, hour=None):
    """Return a call to called along which just these are rung, None if there is none."""
    _need_all(house, called, rung, hour)
    for asked in _hours_asked(house, hour):
        calls = list(fitting_calls(house, called, asked, rung).values())
        if calls:
            return calls[0]
    return None


def _need_all(house, called, rung, hour):
    """Raise NotUsable for the first of these values that is not as stated."""
    need_house(house)
    need_called(house, called)
    phones = [phone[1] for phone in listed_phones(house)]
    if not isinstance(rung, tuple) or not all([is_one_of(name, phones) for name in rung]):
        raise NotUsable("rung", -1)
    if hour is not None:
        need_hour(hour)


def _hours_asked(house, hour):
    """Return a tuple of this hour, or of one for each way in which hours can be unlike."""
    return unlike_hours(house) if hour is None else (hour,)
