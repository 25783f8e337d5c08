"""The search for the ends of calls; nothing is checked here."""

from ledcalls.madecalls import call_by, call_ending
from ledcalls.trails import (
    PAST_FIRST, ends_behind, onward_leads, stops_in, trails_from, unlike_hours)


def found_ends(house, called):
    """Return a list of all ends of calls to called that do not go round."""
    found = {}
    for hour in unlike_hours(house):
        stops = stops_in(house, hour)
        onward = onward_leads(house, hour, PAST_FIRST)
        for trail in trails_from(house, called, onward):
            for end in ends_behind(trail, stops):
                found[end] = True
    return list(found)


def find_end(house, called, end):
    """Return a call to called with this end, None if there is none."""
    for hour in unlike_hours(house):
        stops = stops_in(house, hour)
        onward = onward_leads(house, hour, PAST_FIRST)
        for trail in trails_from(house, called, onward):
            if end in ends_behind(trail, stops):
                return call_ending(house, called, hour, trail, end)
            way, at, _ = trail
            back = [lead for lead in onward[at] if end == ("round", lead[2])]
            if back and end[1] in (at, *[lead[0] for lead in way]):
                return call_by(house, called, hour, (*way, back[0]))
    return None
