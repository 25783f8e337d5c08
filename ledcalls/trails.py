"""Trails: how calls to a place can be led in an hour; nothing is checked here.

A trail is a triple (way, at, mute): a tuple of leads of the hour, one behind the other, to
different places; the name of the place where a call is behind them; the names of the phones that
cannot answer in a call that is led so. Of several leads from a place to another one a trail has
only that whose word comes first in the order that is asked for.
"""

from ledcalls.kinds import HOURS
from ledcalls.plainparts import leads_in, listed_phones, phones_within, table_of

# A phone that leads a call past may have any standing: it answers wherever another one can.
PAST_FIRST = ("hours", "unheard", "busy", "off", "after")
# A phone that is unheard is rung wherever another one is that does not answer.
RUNG_FIRST = ("unheard", "hours", "busy", "off", "after")


def unlike_hours(house):
    """Return a tuple of hours, one for each way in which settings can have an hour or not."""
    settings = [setting for phone in listed_phones(house) for setting in phone[4]]
    patterns = [tuple([hour in setting[0] for setting in settings]) for hour in HOURS]
    return tuple([hour for hour in HOURS if patterns.index(patterns[hour]) == hour])


def groups_in(house):
    """Return a dict with the names of the phones of each group."""
    table = table_of(house)
    return {name: phones_within(table, name) for name in table if table[name][0] == "group"}


def onward_leads(house, hour, words):
    """Return a dict with a list for each place: the first lead, by its word, to each next one."""
    leads = leads_in(house, hour)
    firsts = {}
    for word in words:
        for lead in leads:
            if lead[1] == word and (lead[0], lead[2]) not in firsts:
                firsts[(lead[0], lead[2])] = lead
    chosen = list(firsts.values())
    return {place[1]: [lead for lead in chosen if lead[0] == place[1]] for place in house[2]}


def trails_from(house, called, onward):
    """Yield all trails from a place by these leads, the shorter ones first."""
    groups = groups_in(house)
    trails = [((), called, ())]
    k = 0
    while k < len(trails):
        trail = trails[k]
        yield trail
        trails.extend(_longer_trails(trail, onward, groups))
        k = k + 1


def _longer_trails(trail, onward, groups):
    """Return a list of the trails that have one lead more."""
    way, at, mute = trail
    passed = [at, *[lead[0] for lead in way]]
    return [
        ((*way, lead), lead[2], (*mute, *_muted(lead, groups)))
        for lead in onward[at] if lead[2] not in passed]


def _muted(lead, groups):
    """Return the phones that cannot answer in a call that goes by this lead."""
    name, word, _ = lead
    if word == "after":
        return groups[name]
    return () if word == "hours" else (name,)


def stops_in(house, hour):
    """Return a dict with a list of the ends at each place in this hour, whatever was before."""
    groups = groups_in(house)
    return {place[1]: _stops_at(place, hour, groups) for place in house[2]}


def _stops_at(place, hour, groups):
    """Return a list of the ends at a place in this hour."""
    name = place[1]
    if place[0] == "box":
        return [("boxed", name)]
    if place[0] == "group":
        unheard = [("unheard", name)] if place[6] == "" else []
        return [*[("answered", phone) for phone in groups[name]], *unheard]
    words = {
        word: True for setting in place[4] if hour not in setting[0]
        for word in _stop_words(setting)}
    return [(word, name) for word in words]


def _stop_words(setting):
    """Return a list of the words of the ends at a phone that does not lead past."""
    _, _, busy, unheard, off = setting
    links = (("answered", ""), ("busy", busy), ("unheard", unheard), ("off", off))
    return [word for word, target in links if target == ""]


def ends_behind(trail, stops):
    """Return a list of the ends that calls can have behind a trail."""
    _, at, mute = trail
    return [end for end in stops[at] if end[0] != "answered" or end[1] not in mute]
