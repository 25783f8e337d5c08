"""The checker of calls that show a harm."""

from ledcalls.callchecker import is_call
from ledcalls.errors import InvalidPaper
from ledcalls.harmshows import harms_shown
from ledcalls.needs import need_called, need_harm, need_house


def lets_harm(house, called, harm, thing):
    """Return True for a call to called that shows the harm; InvalidPaper tells of others."""
    need_house(house)
    need_called(house, called)
    need_harm(harm)
    if not is_call(house, thing) or thing[0] != called:
        raise InvalidPaper("call", -1)
    if harm not in harms_shown(house, thing):
        raise InvalidPaper("harm", -1)
    return True
