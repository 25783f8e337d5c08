"""Papers that tell whether calls go round."""

from ledcalls.harmsearch import find_harm
from ledcalls.kinds import HOURS
from ledcalls.leadpaths import falling_pairs
from ledcalls.needs import need_called, need_house
from ledcalls.plainparts import leads_in


def round_paper(house, called):
    """Return a paper: a call to called that goes round, or numbers for each hour."""
    need_house(house)
    need_called(house, called)
    call = find_harm(house, called, "round")
    if call is not None:
        return ("call", call)
    return ("numbers", tuple([falling_pairs(leads_in(house, hour), called) for hour in HOURS]))
