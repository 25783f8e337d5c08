"""Rings of leads, and whether calls go round."""

from ledcalls.errors import NotUsable
from ledcalls.kinds import HOURS, is_hours
from ledcalls.leadpaths import rings_in, round_way
from ledcalls.needs import need_called, need_hour, need_house
from ledcalls.plainparts import leads_in


def rings_of(house, hour):
    """Return the set of all rings of the hour."""
    need_house(house)
    need_hour(hour)
    return rings_in(leads_in(house, hour))


def can_round(house, called, *, hours=None):
    """Return whether some call to called goes round in one of these hours, or in any."""
    need_house(house)
    need_called(house, called)
    if hours is not None and not is_hours(hours):
        raise NotUsable("hours", -1)
    asked = HOURS if hours is None else hours
    return any([round_way(leads_in(house, hour), called) != () for hour in asked])
