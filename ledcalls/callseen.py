"""All books, and all calls to a place in an hour, one by one."""

from ledcalls.kinds import STANDINGS
from ledcalls.needs import need_called, need_hour, need_house
from ledcalls.plainparts import listed_phones
from ledcalls.sorting import ascending


def books_of(house):
    """Yield all books of calls of the house, ascending."""
    need_house(house)
    choices = _settings_of_phones(house)
    yield from _rows_of(choices)


def calls_to(house, called, hour):
    """Yield all calls to called in the hour, ascending."""
    need_house(house)
    need_called(house, called)
    need_hour(hour)
    choices = _settings_of_phones(house)
    words = ascending(STANDINGS)
    standing_choices = tuple([words for _ in choices])
    for book in _rows_of(choices):
        for standings in _rows_of(standing_choices):
            yield (called, hour, book, standings)


def _settings_of_phones(house):
    """Return a tuple with the settings of each phone, in the order of the places."""
    return tuple([phone[4] for phone in listed_phones(house)])


def _rows_of(choices):
    """Yield all tuples with one of each of the choices, ascending if each choice ascends."""
    if choices == ():
        yield ()
    else:
        first, *others = choices
        rest = tuple(others)
        for thing in first:
            for row in _rows_of(rest):
                yield (thing, *row)
