"""Papers that tell whether calls go round."""

from ledcalls.harmsearch import find_harm
from ledcalls.kinds import HOURS
from ledcalls.needs import need_called, need_house
from ledcalls.numbers import falling_numbers


def round_paper(house, called):
    """Return a paper: a call to called that goes round, or numbers for each hour."""
    need_house(house)
    need_called(house, called)
    call = find_harm(house, called, "round")
    if call is not None:
        return ("call", call)
    return ("numbers", tuple([falling_numbers(house, called, hour) for hour in HOURS]))
