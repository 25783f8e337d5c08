"""The checkers of falling numbers, and of papers that tell whether calls go round."""

from ledcalls.callchecker import is_call
from ledcalls.errors import InvalidPaper
from ledcalls.kinds import HOURS, is_number, is_one_of, is_tuple_of
from ledcalls.moves import goes_round
from ledcalls.needs import need_called, need_hour, need_house
from ledcalls.plainparts import leads_in, listed_names


def lets_numbers(house, called, hour, thing):
    """Return the number of called; InvalidPaper tells why thing shows none."""
    need_house(house)
    need_called(house, called)
    need_hour(hour)
    if not isinstance(thing, tuple):
        raise InvalidPaper("shape", -1)
    names = listed_names(house)
    for k, pair in enumerate(thing):
        if not is_numbered(pair, names) or (k > 0 and not thing[k - 1][0] < pair[0]):
            raise InvalidPaper("pair", k)
    numbers = {name: number for name, number in thing}
    if called not in numbers:
        raise InvalidPaper("called", -1)
    for lead in leads_in(house, hour):
        if not falls(lead, numbers):
            raise InvalidPaper("lead", lead)
    return numbers[called]


def is_numbered(thing, names):
    """Return whether any value is a pair of one of the names and a number."""
    return is_tuple_of(thing, 2) and is_one_of(thing[0], names) and is_number(thing[1])


def falls(lead, numbers):
    """Return whether a lead from a name that has a number goes to one with a lesser number."""
    name, _, target = lead
    if name not in numbers:
        return True
    return target in numbers and numbers[target] < numbers[name]


def lets_round(house, called, thing):
    """Return True for a call that goes round, False for numbers; InvalidPaper tells of others."""
    need_house(house)
    need_called(house, called)
    if not _has_shape(thing):
        raise InvalidPaper("shape", -1)
    word, held = thing
    if word == "call":
        _let_call(house, called, held)
        return True
    for hour in HOURS:
        if not _are_numbers(house, called, hour, held[hour]):
            raise InvalidPaper("hour", hour)
    return False


def _has_shape(thing):
    """Return whether thing is a pair as a paper is, of a word and what it has."""
    if not is_tuple_of(thing, 2) or not is_one_of(thing[0], ("call", "numbers")):
        return False
    return thing[0] == "call" or is_tuple_of(thing[1], len(HOURS))


def _let_call(house, called, thing):
    """Raise InvalidPaper if any value is no call to called that goes round."""
    if not is_call(house, thing) or thing[0] != called:
        raise InvalidPaper("call", -1)
    if not goes_round(house, thing):
        raise InvalidPaper("end", -1)


def _are_numbers(house, called, hour, thing):
    """Return whether any value shows numbers of called in the hour."""
    try:
        lets_numbers(house, called, hour, thing)
    except InvalidPaper:
        return False
    return True
