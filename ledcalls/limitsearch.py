"""The search for calls with many hops, and for those that limits cut; nothing is checked here.

Counts begin at 0 where a call begins and where one is lost. So the greatest count at which a call
hops is come to by another call, too, which begins where this count began and hops on to it without
a loss; it ends as the first one does, or goes the same ring.
"""

from ledcalls.leadpaths import rings_in
from ledcalls.madecalls import call_by, call_ending
from ledcalls.moves import loses
from ledcalls.plainparts import listed_names, table_of
from ledcalls.trails import (
    PAST_FIRST, ends_behind, onward_leads, stops_in, trails_from, unlike_hours)


def longest(house, called):
    """Return the pair of the most hops of calls to called that do not go round, and such a call.

    It is (None, None) if each call goes round.
    """
    best = (None, None)
    for hour in unlike_hours(house):
        stops = stops_in(house, hour)
        onward = onward_leads(house, hour, PAST_FIRST)
        for trail in trails_from(house, called, onward):
            ends = ends_behind(trail, stops)
            hops = len(trail[0])
            if ends and (best[0] is None or hops > best[0]):
                best = (hops, call_ending(house, called, hour, trail, ends[0]))
    return best


def best_good(house):
    """Return the pair of the least limit that cuts no good call, and a call that lesser ones cut.

    The call is None if no good call hops.
    """
    best = (0, None)
    for hour in unlike_hours(house):
        for called in listed_names(house):
            best = _better_good(house, called, hour, best)
    return best


def _better_good(house, called, hour, best):
    """Return the best pair, or a better one of good calls to called in the hour."""
    lossy = _lossy_pairs(house)
    stops = stops_in(house, hour)
    onward = onward_leads(house, hour, PAST_FIRST)
    for trail in trails_from(house, called, onward):
        hops = _hops_to_loss(trail[0], lossy)
        if hops > best[0]:
            good = [end for end in ends_behind(trail, stops) if end[0] in ("answered", "boxed")]
            if good:
                best = (hops, call_ending(house, called, hour, trail, good[0]))
    return best


def _lossy_pairs(house):
    """Return a dict of True for each pair of names between which a hop loses the count."""
    table = table_of(house)
    return {
        (name, other): True for name in table for other in table
        if loses(house[0], table[name], table[other])}


def _hops_to_loss(way, lossy):
    """Return how many hops a way has up to the first that loses the count, and with it."""
    for k, lead in enumerate(way):
        if (lead[0], lead[2]) in lossy:
            return k + 1
    return len(way)


def least_round(house):
    """Return the pair of the least limit that does not cut each call that goes round, and one.

    It is (None, None) if each limit cuts all calls that go round.
    """
    lossy = _lossy_pairs(house)
    best = (None, None)
    for hour in unlike_hours(house):
        for ring in _lossy_rings(house, hour, lossy):
            # Two turns have each stretch between two losses as a whole.
            hops = _most_between_losses((*ring, *ring), lossy)
            if best[0] is None or hops < best[0]:
                best = (hops, call_by(house, ring[0][0], hour, ring))
    return best


def _lossy_rings(house, hour, lossy):
    """Return a list of rings of the hour that lose the count, one for each order of names."""
    onward = onward_leads(house, hour, PAST_FIRST)
    rings = rings_in([lead for name in onward for lead in onward[name]])
    return [ring for ring in rings if any([(lead[0], lead[2]) in lossy for lead in ring])]


def _most_between_losses(way, lossy):
    """Return the most hops along a way up to one that loses the count, and with it."""
    most = hops = 0
    for lead in way:
        hops = hops + 1
        if hops > most:
            most = hops
        if (lead[0], lead[2]) in lossy:
            hops = 0
    return most
