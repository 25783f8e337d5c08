"""The search for settings that are to be taken out; nothing is checked here.

A call that shows a harm shows it wherever the phones of its course have their settings, whatever
the others have. So one of the settings that it needs is to be taken out, for each such call.
"""

from ledcalls.harmsearch import find_harm
from ledcalls.housechanges import without_settings
from ledcalls.moves import scene_of, walk
from ledcalls.plainparts import listed_names
from ledcalls.settingpairs import leaves_settings
from ledcalls.sorting import ascending


def least_sets(house, given, harms):
    """Return a list of all least sets of the given pairs that are enough against the harms."""
    waiting = [()]
    enough = []
    while waiting:
        call = harmful_call(without_settings(house, waiting[0]), harms)
        if call is None:
            enough.append(waiting[0])
            waiting = waiting[1:]
        else:
            needed = _needed_pairs(house, given, call)
            widened = _widened(waiting, enough, needed)
            waiting = [taken for taken in widened if leaves_settings(house, taken)]
    return enough


def harmful_call(house, harms):
    """Return a call to whatever place that shows one of the harms, None if there is none."""
    for called in listed_names(house):
        for harm in harms:
            call = find_harm(house, called, harm)
            if call is not None:
                return call
    return None


def _needed_pairs(house, given, call):
    """Return a list of those of the given pairs that the course of a call needs."""
    _, _, settings, _ = scene_of(house, call)
    names, _ = walk(scene_of(house, call), call[0])
    return [(name, setting) for name, setting in given if name in names and settings[name] == setting]


def _widened(waiting, enough, needed):
    """Return a list of the least sets that have one of the needed pairs, too.

    Each of the sets that are enough has one of them, and is not in the list.
    """
    fit = [taken for taken in waiting if _is_met(taken, needed)]
    kept = [*enough, *fit]
    for taken in waiting:
        if not _is_met(taken, needed):
            wider = [ascending([*taken, pair]) for pair in needed]
            fit.extend([more for more in wider if not _includes_any(more, kept)])
    return fit


def _is_met(taken, needed):
    """Return whether one of the needed pairs is in a set."""
    return any([pair in taken for pair in needed])


def _includes_any(taken, others):
    """Return whether one of the other sets is a part of a set."""
    return any([all([pair in taken for pair in other]) for other in others])
