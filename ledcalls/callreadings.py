"""Calls that lines write."""

from ledcalls.errors import InvalidText
from ledcalls.kinds import STANDINGS
from ledcalls.linewords import HOUR_WORDS
from ledcalls.needs import need_house, need_text
from ledcalls.plainparts import listed_names, listed_phones


def read_call(house, text):
    """Return the call of the house that a string writes."""
    need_house(house)
    need_text(text)
    words = text.split(" ")
    tables = _tables_of(house)
    fault = _first_fault(words, tables)
    if fault is not None:
        raise InvalidText(0, fault)
    called, hour, *pairs = [table[word] for table, word in zip(tables, words)]
    book = tuple([setting for setting, _ in pairs])
    return (called, hour, book, tuple([standing for _, standing in pairs]))


def _tables_of(house):
    """Return for each word of a line a dict of what each word that can stand there writes."""
    names = {name: name for name in listed_names(house)}
    hours = {word: hour for hour, word in enumerate(HOUR_WORDS)}
    return (names, hours, *[_phone_table(phone[4]) for phone in listed_phones(house)])


def _phone_table(settings):
    """Return a dict of the pair of setting and standing that each word of a phone writes."""
    return {
        f"{k}:{standing}": (setting, standing)
        for k, setting in enumerate(settings) for standing in STANDINGS}


def _first_fault(words, tables):
    """Return the index of the first word that cannot stand or is missing, None if all is well."""
    for at, table in enumerate(tables):
        if at == len(words) or words[at] not in table:
            return at
    return len(tables) if len(words) > len(tables) else None
