"""Falling numbers, which show that no call goes round."""

from ledcalls.leadpaths import falling_pairs, numbered
from ledcalls.needs import need_called, need_hour, need_house
from ledcalls.plainparts import leads_in, reached_by


def falling_numbers(house, called, hour):
    """Return the set of pairs of a name and its number, None if a ring can be come to."""
    _need_all(house, called, hour)
    leads = leads_in(house, hour)
    return falling_pairs(leads, reached_by(leads, called))


def most_amid(house, called, hour):
    """Return the most hops of a call even if settings and standings change amid it, or None."""
    _need_all(house, called, hour)
    numbers, _ = numbered(leads_in(house, hour), called)
    return numbers.get(called)


def _need_all(house, called, hour):
    """Raise NotUsable for the first of these values that is not as stated."""
    need_house(house)
    need_called(house, called)
    need_hour(hour)
