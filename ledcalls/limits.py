"""The hops of calls, and the limits that cut them."""

from ledcalls.limitsearch import best_good, least_round, longest
from ledcalls.needs import need_called, need_house, need_limit


def most_hops(house, called):
    """Return the most hops of a call to called that does not go round, None if each one does."""
    need_house(house)
    need_called(house, called)
    hops, _ = longest(house, called)
    return hops


def longest_call(house, called):
    """Return a call to called with most_hops hops that does not go round, or None."""
    need_house(house)
    need_called(house, called)
    _, call = longest(house, called)
    return call


def least_limit(house):
    """Return the least limit that cuts no good call."""
    need_house(house)
    limit, _ = best_good(house)
    return limit


def sure_limit(house):
    """Return the least limit that cuts no good call and each that goes round, or None."""
    need_house(house)
    limit, _ = best_good(house)
    # A greater limit cuts no call that a lesser one does not cut.
    return limit if uncut_call(house, limit) is None else None


def cut_call(house, limit):
    """Return a good call that the limit cuts, None if there is none."""
    need_house(house)
    need_limit(limit)
    least, call = best_good(house)
    return call if limit < least else None


def uncut_call(house, limit):
    """Return a call that goes round and that the limit does not cut, None if there is none."""
    need_house(house)
    need_limit(limit)
    least, call = least_round(house)
    return call if least is not None and least <= limit else None
