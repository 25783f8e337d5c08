"""The checker of papers that show that no limit is sure."""

from ledcalls.callchecker import is_call
from ledcalls.courses import counts_in, is_cut, is_good
from ledcalls.errors import InvalidPaper
from ledcalls.kinds import is_one_of, is_tuple_of
from ledcalls.moves import goes_round
from ledcalls.needs import need_house


def lets_unsure(house, thing):
    """Return the least limit that does not cut the good call; InvalidPaper tells of others."""
    need_house(house)
    if not is_tuple_of(thing, 3) or not is_one_of(thing[0], ("unsure",)):
        raise InvalidPaper("shape", -1)
    _, good, going = thing
    limit = _limit_above(house, good)
    if limit is None:
        raise InvalidPaper("good", -1)
    if not is_call(house, going) or not goes_round(house, going) or is_cut(house, going, limit):
        raise InvalidPaper("round", -1)
    return limit


def _limit_above(house, thing):
    """Return the least limit that does not cut a good call, None for any other value.

    It is None, too, for a good call that does not hop.
    """
    if not is_call(house, thing) or not is_good(house, thing):
        return None
    limit = 0
    for count in counts_in(house, thing):
        if count >= limit:
            limit = count + 1
    return None if limit == 0 else limit
