"""The checker of papers that show that a taking is one of the least."""

from ledcalls.callchecker import is_call
from ledcalls.errors import InvalidPaper
from ledcalls.housechanges import without_settings
from ledcalls.kinds import HOURS, is_tuple_of
from ledcalls.moves import goes_round
from ledcalls.needs import need_house
from ledcalls.plainparts import leads_in, listed_names
from ledcalls.roundchecker import falls, is_numbered
from ledcalls.settingpairs import is_taking, without_one
from ledcalls.sorting import ascending


def lets_taking(house, thing):
    """Return how many settings a taking has; InvalidPaper tells why thing shows none."""
    need_house(house)
    if not is_tuple_of(thing, 3) or not all([isinstance(part, tuple) for part in thing]):
        raise InvalidPaper("shape", -1)
    taken, tables, calls = thing
    if not is_taking(house, taken):
        raise InvalidPaper("taken", -1)
    _let_tables(without_settings(house, taken), tables)
    _let_calls(house, taken, calls)
    return len(taken)


def _let_tables(house, tables):
    """Raise InvalidPaper if a tuple has not falling numbers of all places for each hour."""
    if len(tables) != len(HOURS):
        raise InvalidPaper("tables", -1)
    for hour in HOURS:
        if not _are_falling(house, hour, tables[hour]):
            raise InvalidPaper("numbers", hour)


def _are_falling(house, hour, thing):
    """Return whether any value is a set of a pair for each place that falls along each lead."""
    names = ascending(listed_names(house))
    if not is_tuple_of(thing, len(names)) or not all([is_numbered(pair, names) for pair in thing]):
        return False
    numbers = {name: number for name, number in thing}
    return tuple(numbers) == names and all([falls(lead, numbers) for lead in leads_in(house, hour)])


def _let_calls(house, taken, calls):
    """Raise InvalidPaper if a tuple has not a call that goes round for each pair taken."""
    if len(calls) != len(taken):
        raise InvalidPaper("calls", -1)
    for k, call in enumerate(calls):
        left = without_settings(house, without_one(taken, k))
        if not is_call(left, call) or not goes_round(left, call):
            raise InvalidPaper("call", k)
