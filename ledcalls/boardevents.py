"""The forms of events and of stories, whatever a house has."""

from ledcalls.kinds import STANDINGS, is_hour, is_name, is_number, is_one_of, is_setting, is_tuple_of


def is_event(thing):
    """Return whether any value is an event by form."""
    if not isinstance(thing, tuple) or thing == ():
        return False
    if not isinstance(thing[0], str) or thing[0] not in FORMS:
        return False
    has_form = FORMS[thing[0]]
    return has_form(thing)


def _has_hour(thing):
    """Return whether a tuple has an hour behind its word."""
    return len(thing) == 2 and is_hour(thing[1])


def _has_setting(thing):
    """Return whether a tuple has a name and a setting behind its word."""
    return len(thing) == 3 and is_name(thing[1]) and is_setting(thing[2])


def _has_standing(thing):
    """Return whether a tuple has a name and a standing behind its word."""
    return len(thing) == 3 and is_name(thing[1]) and is_one_of(thing[2], STANDINGS)


def _has_name(thing):
    """Return whether a tuple has a name behind its word."""
    return len(thing) == 2 and is_name(thing[1])


def _has_no_more(thing):
    """Return whether a tuple has nothing behind its word."""
    return len(thing) == 1


FORMS = {
    "hour": _has_hour, "set": _has_setting, "stand": _has_standing, "call": _has_name,
    "hop": _has_no_more, "drop": _has_no_more, "mark": _has_name}


def is_told(thing):
    """Return whether any value is a story by form, whatever stands for its house."""
    if not isinstance(thing, tuple) or thing == () or not is_tuple_of(thing[0], 3):
        return False
    word, _, limit = thing[0]
    if not is_one_of(word, ("board",)) or not (limit is None or is_number(limit)):
        return False
    return all([is_event(event) for event in thing[1:]])
