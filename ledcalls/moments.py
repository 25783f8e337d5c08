"""What is so on a board at a moment, and what events make of it; nothing is checked here.

A moment is a dict: "hour", "book" and "standings" as in a call; of the call that is on "at", the
names of the places where it was, "count" and "told", which are (), 0 and "" if none is on; "ends",
those of the calls that ended; "marks", a dict of how many ends there were when each mark was made.
"""

from ledcalls.moves import loses, move_at, scene_of
from ledcalls.plainparts import find_place, kind_named, listed_phones, own_in, with_own


def first_moment(house):
    """Return the moment at which a board begins."""
    phones = listed_phones(house)
    return {
        "hour": 0, "book": tuple([phone[4][0] for phone in phones]),
        "standings": tuple(["answers" for _ in phones]),
        "at": (), "count": 0, "told": "", "ends": (), "marks": {}}


def scene_at(house, moment):
    """Return the scene that a call meets at a moment."""
    return scene_of(house, ("", moment["hour"], moment["book"], moment["standings"]))


def place_at(moment):
    """Return the name of the place where the call is, or the empty string if none is on."""
    return moment["at"][-1] if moment["at"] != () else ""


def reason_against(house, moment, event):
    """Return the reason for which an event by form is refused, or None."""
    reason_of = REASONS[event[0]]
    return reason_of(house, moment, event)


def _against_hour(house, moment, event):
    """Return the reason against another hour, or None."""
    if moment["at"] != ():
        return "call"
    return "same" if event[1] == moment["hour"] else None


def _against_set(house, moment, event):
    """Return the reason against a setting of a phone, or None."""
    _, name, setting = event
    if kind_named(house, name) != "phone":
        return "name"
    if setting not in find_place(house, name)[4]:
        return "setting"
    return "same" if setting == own_in(house, moment["book"], name) else None


def _against_stand(house, moment, event):
    """Return the reason against a standing of a phone, or None."""
    _, name, standing = event
    if kind_named(house, name) != "phone":
        return "name"
    return "same" if standing == own_in(house, moment["standings"], name) else None


def _against_call(house, moment, event):
    """Return the reason against a call, or None."""
    if kind_named(house, event[1]) == "":
        return "name"
    return "call" if moment["at"] != () else None


def _against_move(house, moment, event):
    """Return the reason against a hop, or a drop, of the call that is on, or None."""
    return "none" if moment["at"] == () else None


def _against_mark(house, moment, event):
    """Return the reason against a mark, or None."""
    return "twice" if event[1] in moment["marks"] else None


REASONS = {
    "hour": _against_hour, "set": _against_set, "stand": _against_stand, "call": _against_call,
    "hop": _against_move, "drop": _against_move, "mark": _against_mark}


def moment_behind(house, limit, moment, event):
    """Return the moment behind an event that is not refused."""
    change = CHANGES[event[0]]
    return change(house, limit, moment, event)


def _with_hour(house, limit, moment, event):
    """Return the moment with another hour."""
    return {**moment, "hour": event[1]}


def _with_setting(house, limit, moment, event):
    """Return the moment with another setting of a phone."""
    return {**moment, "book": with_own(house, moment["book"], event[1], event[2])}


def _with_standing(house, limit, moment, event):
    """Return the moment with another standing of a phone."""
    return {**moment, "standings": with_own(house, moment["standings"], event[1], event[2])}


def _with_call(house, limit, moment, event):
    """Return the moment with a call that begins."""
    return {**moment, "at": (event[1],)}


def _with_mark(house, limit, moment, event):
    """Return the moment with a mark."""
    marks = moment["marks"]
    return {**moment, "marks": {**marks, event[1]: len(moment["ends"])}}


def _dropped(house, limit, moment, event):
    """Return the moment behind the drop of the call."""
    return _ended(moment, ("dropped", place_at(moment)))


def _moved_on(house, limit, moment, event):
    """Return the moment behind the next move of the call."""
    name = place_at(moment)
    word, target, who = move_at(scene_at(house, moment), name)
    if target == "":
        return _ended(moment, (word, who))
    if limit is not None and moment["count"] >= limit:
        return _ended(moment, ("cut", name))
    place = find_place(house, name)
    lost = loses(house[0], place, find_place(house, target))
    return {
        **moment, "at": (*moment["at"], target), "count": 0 if lost else moment["count"] + 1,
        "told": name if place[3] == "own" else moment["told"]}


def _ended(moment, end):
    """Return the moment behind this end of the call."""
    return {**moment, "at": (), "count": 0, "told": "", "ends": (*moment["ends"], end)}


CHANGES = {
    "hour": _with_hour, "set": _with_setting, "stand": _with_standing, "call": _with_call,
    "hop": _moved_on, "drop": _dropped, "mark": _with_mark}
