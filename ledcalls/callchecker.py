"""The checker of calls."""

from ledcalls.books import first_odd_setting
from ledcalls.errors import InvalidPaper
from ledcalls.kinds import STANDINGS, is_hour, is_one_of, is_tuple_of
from ledcalls.needs import need_house
from ledcalls.plainparts import listed_names, listed_phones


def is_call(house, thing):
    """Return whether any value is a call of the house."""
    try:
        lets_call(house, thing)
    except InvalidPaper:
        return False
    return True


def lets_call(house, thing):
    """Return how many phones answer in a call; InvalidPaper tells why any other value is none."""
    need_house(house)
    if not is_tuple_of(thing, 4):
        raise InvalidPaper("shape", -1)
    called, hour, book, standings = thing
    if not is_one_of(called, listed_names(house)):
        raise InvalidPaper("called", -1)
    if not is_hour(hour):
        raise InvalidPaper("hour", -1)
    _let_book(listed_phones(house), book)
    _let_standings(listed_phones(house), standings)
    return standings.count("answers")


def _let_book(phones, book):
    """Raise InvalidPaper if any value has not one of the settings of each phone."""
    if not is_tuple_of(book, len(phones)):
        raise InvalidPaper("book", -1)
    k = first_odd_setting(phones, book)
    if k is not None:
        raise InvalidPaper("setting", k)


def _let_standings(phones, standings):
    """Raise InvalidPaper if any value has not a standing for each phone."""
    if not is_tuple_of(standings, len(phones)):
        raise InvalidPaper("standings", -1)
    for k, standing in enumerate(standings):
        if not is_one_of(standing, STANDINGS):
            raise InvalidPaper("standing", k)


def is_standings(house, thing):
    """Return whether any value is a tuple with a standing for each phone."""
    if not is_tuple_of(thing, len(listed_phones(house))):
        return False
    return all([is_one_of(standing, STANDINGS) for standing in thing])
