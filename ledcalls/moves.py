"""What happens to a call at a place, and along its course; nothing is checked here.

A scene is what a call meets: a tuple of the hour and of three dicts, which have the place of
each name, and the setting and the standing of each phone.
"""

from ledcalls.plainparts import SLOTS, listed_phones, phones_within, table_of


def scene_of(house, call):
    """Return the scene of a call."""
    _, hour, book, standings = call
    names = [phone[1] for phone in listed_phones(house)]
    return (hour, table_of(house), dict(zip(names, book)), dict(zip(names, standings)))


def is_led_past(scene, name):
    """Return whether the place of this name is a phone that leads the call past."""
    hour, _, settings, _ = scene
    return name in settings and hour in settings[name][0]


def move_at(scene, name):
    """Return the triple (word, target, who) of what happens to the call at a place.

    It is led to target for this word; if target is empty, it ends: (word, who).
    """
    _, table, settings, standings = scene
    place = table[name]
    if place[0] == "box":
        return ("boxed", "", name)
    if place[0] == "group":
        return _move_at_group(scene, place)
    word = "hours" if is_led_past(scene, name) else standings[name]
    if word == "answers":
        return ("answered", "", name)
    return (word, settings[name][SLOTS[word]], name)


def _move_at_group(scene, place):
    """Return the triple of what happens to the call at a group."""
    _, table, _, standings = scene
    name, after = place[1], place[6]
    for phone in phones_within(table, name):
        if standings[phone] == "answers":
            return ("answered", "", phone)
    return ("after", after, name) if after != "" else ("unheard", "", name)


def rung_at(scene, name):
    """Return the names of the phones that are rung at a place, in order."""
    _, table, _, standings = scene
    place = table[name]
    if place[0] == "group":
        return _rung_at_group(scene, place)
    if place[0] == "box" or is_led_past(scene, name):
        return ()
    return (name,) if standings[name] in ("answers", "unheard") else ()


def _rung_at_group(scene, place):
    """Return the names of the phones that a group rings, in order."""
    _, table, _, standings = scene
    rung = []
    for phone in phones_within(table, place[1]):
        if standings[phone] in ("answers", "unheard"):
            rung.append(phone)
        if standings[phone] == "answers" and place[4] == "turns":
            break
    return tuple(rung)


def walk(scene, called):
    """Return the course of the call to called: the names of its places, and how it ends."""
    names = [called]
    while True:
        word, target, who = move_at(scene, names[-1])
        if target == "":
            return (tuple(names), (word, who))
        if target in names:
            return (tuple(names), ("round", target))
        names.append(target)


def goes_round(house, call):
    """Return whether a call goes round."""
    _, end = walk(scene_of(house, call), call[0])
    return end[0] == "round"


def told_behind(table, names):
    """Return the caller that is told at the last of these places, which a call came along."""
    told = ""
    for name in names[:-1]:
        if table[name][3] == "own":
            told = name
    return told


def counts_at(house, names):
    """Return the counts at which a call is at these places, one behind the other."""
    table = table_of(house)
    counts = []
    count = 0
    for k, name in enumerate(names):
        if k > 0:
            count = 0 if loses(house[0], table[names[k - 1]], table[name]) else count + 1
        counts.append(count)
    return tuple(counts)


def counts_along(house, names):
    """Return the counts ahead of the hops along these places."""
    return counts_at(house, names[:-1])


def loses_along(house, names):
    """Return whether the count is lost behind a hop along these places."""
    table = table_of(house)
    hops = range(len(names) - 1)
    return any([loses(house[0], table[names[k]], table[names[k + 1]]) for k in hops])


def loses(border, place, target):
    """Return whether the count is lost behind a hop from a place to another one."""
    return place[2] != target[2] and border[target[2]] == "lost"
