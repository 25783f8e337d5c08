"""Papers that show that a taking is one of the least."""

from ledcalls.housechanges import without_settings
from ledcalls.kinds import HOURS
from ledcalls.leadpaths import falling_pairs
from ledcalls.plainparts import leads_in, listed_names
from ledcalls.settingpairs import without_one
from ledcalls.takingsearch import harmful_call


def taking_paper(house, taken):
    """Return a paper with this taking, None if it is none of the least against "round"."""
    left = without_settings(house, taken)
    names = listed_names(house)
    tables = tuple([falling_pairs(leads_in(left, hour), names) for hour in HOURS])
    if None in tables:
        return None
    calls = tuple([_round_with(house, without_one(taken, k)) for k in range(len(taken))])
    return None if None in calls else (taken, tables, calls)


def _round_with(house, taken):
    """Return a call that goes round in the house without these pairs, None if there is none."""
    return harmful_call(without_settings(house, taken), ("round",))
