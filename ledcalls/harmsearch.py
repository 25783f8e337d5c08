"""The search for calls that show a harm; nothing is checked here."""

from ledcalls.leadpaths import round_way
from ledcalls.madecalls import call_by, call_ending
from ledcalls.plainparts import leads_in
from ledcalls.trails import (
    PAST_FIRST, RUNG_FIRST, ends_behind, groups_in, onward_leads, stops_in, trails_from,
    unlike_hours)


def _round_in(house, called, hour):
    """Return a call in the hour that goes round, None if there is none."""
    way = round_way(leads_in(house, hour), called)
    return None if way == () else call_by(house, called, hour, way)


def _lost_in(house, called, hour):
    """Return a call in the hour that shows "lost", None if there is none."""
    groups = groups_in(house)
    stops = stops_in(house, hour)
    onward = onward_leads(house, hour, PAST_FIRST)
    for trail in trails_from(house, called, onward):
        ends = [end for end in ends_behind(trail, stops) if end[0] in ("busy", "unheard", "off")]
        past = _past_phones(trail, groups)
        if ends and past:
            return call_ending(house, called, hour, trail, ends[0], answers=past[0])
    return None


def _past_phones(trail, groups):
    """Return a list of the phones that lead past along a trail and can answer nevertheless."""
    way, at, mute = trail
    # A group at the end of the trail is to be unheard.
    silent = (*mute, *groups.get(at, ()))
    return [name for name, word, _ in way if word == "hours" and name not in silent]


def _twice_in(house, called, hour):
    """Return a call in the hour that shows "twice", None if there is none."""
    for moves, met in _meetings(house, called, hour):
        if len({name: True for name in met}) < len(met):
            return call_by(house, called, hour, moves, rest="unheard")
    return None


def _barred_in(house, called, hour):
    """Return a call in the hour that shows "barred", None if there is none."""
    barred = [name for first, name in house[1] if first == called]
    if not barred:
        return None
    for moves, met in _meetings(house, called, hour):
        if any([name in barred for name in met]):
            return call_by(house, called, hour, moves, rest="unheard")
    return None


def _meetings(house, called, hour):
    """Yield a pair for each trail: its moves, and whom a call meets along it.

    Each phone is unheard that may be: so none is rung less often than in any other call that goes
    the same way.
    """
    groups = groups_in(house)
    lasts = {place[1]: _last_moves(place, hour) for place in house[2]}
    onward = onward_leads(house, hour, RUNG_FIRST)
    for trail in trails_from(house, called, onward):
        way, at, _ = trail
        moves = (*way, *lasts[at])
        yield (moves, _met_along(moves, groups))


def _last_moves(place, hour):
    """Return the move at the end of a trail by which somebody is met, as a tuple, perhaps empty.

    A phone is unheard there, if some setting of it does not lead past.
    """
    if place[0] == "box":
        return ((place[1], "boxed", ""),)
    if place[0] == "group":
        return ((place[1], "after", ""),)
    links = [setting[3] for setting in place[4] if hour not in setting[0]]
    return () if links == [] else ((place[1], "unheard", links[0]),)


def _met_along(moves, groups):
    """Return a list of the phones that are rung along these moves, and of the box at their end."""
    met = []
    for name, word, _ in moves:
        if word in ("unheard", "boxed"):
            met.append(name)
        if word == "after":
            met.extend(groups[name])
    quiet = [name for name, word, _ in moves if word in ("busy", "off")]
    return [name for name in met if name not in quiet]


FINDERS = {"round": _round_in, "twice": _twice_in, "lost": _lost_in, "barred": _barred_in}


def find_harm(house, called, harm):
    """Return a call to called that shows the harm, None if there is none."""
    finder = FINDERS[harm]
    for hour in unlike_hours(house):
        call = finder(house, called, hour)
        if call is not None:
            return call
    return None
