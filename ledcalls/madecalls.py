"""Calls that go a way that is asked for; nothing is checked here.

A move is a lead of the hour, or a triple (name, standing, "") of a phone at which a call ends.
"""

from ledcalls.plainparts import SLOTS, find_place, kind_named, listed_phones


def call_by(house, called, hour, moves, *, answers="", unheard=(), rest="off"):
    """Return the call to called in which the phones of these moves make them.

    The phone called answers, if there is one, answers, those that unheard names are unheard; each
    other one has the standing rest.
    """
    settings = {}
    standings = {name: "unheard" for name in unheard}
    for name, word, target in moves:
        if kind_named(house, name) == "phone":
            settings[name] = _setting_for(find_place(house, name), hour, word, target)
            if word != "hours":
                standings[name] = word
    if answers != "":
        standings[answers] = "answers"
    phones = listed_phones(house)
    book = tuple([settings.get(phone[1], phone[4][0]) for phone in phones])
    return (called, hour, book, tuple([standings.get(phone[1], rest) for phone in phones]))


def _setting_for(phone, hour, word, target):
    """Return the first setting with which the phone makes such a move in the hour."""
    fit = [setting for setting in phone[4] if (hour in setting[0]) == (word == "hours")]
    if word == "answers":
        return fit[0]
    return [setting for setting in fit if setting[SLOTS[word]] == target][0]


def call_ending(house, called, hour, trail, end, *, answers=""):
    """Return the call to called that goes along a trail and has one of the ends behind it."""
    way, at, _ = trail
    word, who = end
    if word == "answered":
        return call_by(house, called, hour, _with_last(house, way, at, "answers"), answers=who)
    return call_by(house, called, hour, _with_last(house, way, at, word), answers=answers)


def _with_last(house, way, at, word):
    """Return the moves of a way, and that with which a phone ends it."""
    return (*way, (at, word, "")) if kind_named(house, at) == "phone" else way
