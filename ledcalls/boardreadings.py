"""Events and stories that lines write."""

from ledcalls.errors import InvalidText, NotUsable
from ledcalls.housereadings import read_house
from ledcalls.linewords import first_fault, setting_from
from ledcalls.needs import need_text

EVENT_KINDS = {
    "hour": ("hour",),
    "set": ("name", "hours", "early", "link", "link", "link"),
    "stand": ("name", "standing"),
    "call": ("name",),
    "hop": (),
    "drop": (),
    "mark": ("name",),
}
HEAD_KINDS = ("limit", "many")


def read_event(text):
    """Return the event by form that a string writes."""
    need_text(text)
    return _event_from(text, 0)


def read_story(lines):
    """Return the story by form that a list of strings writes; its house may be none."""
    if not _is_lines(lines):
        raise NotUsable("lines", -1)
    limit, many = _head_from(lines[0] if lines else "")
    house = _house_from(lines[1:], many)
    events = [_event_from(row, k) for k, row in enumerate(lines) if k > many]
    return (("board", house, limit), *events)


def _is_lines(thing):
    """Return whether any value is a list of strings without newlines."""
    if not isinstance(thing, list):
        return False
    return all([isinstance(row, str) and "\n" not in row for row in thing])


def _let_words(words, line, kinds):
    """Raise InvalidText unless the words behind the first one are of these kinds.

    The kinds are None if already the first word cannot stand.
    """
    fault = 0 if kinds is None else first_fault(words, kinds)
    if fault is not None:
        raise InvalidText(line, fault)


def _head_from(row):
    """Return the pair of the limit and of how many lines the house has, which a row writes."""
    words = row.split(" ")
    _let_words(words, 0, HEAD_KINDS if words[0] == "board" else None)
    return (None if words[1] == "-" else int(words[1]), int(words[2]))


def _house_from(rows, many):
    """Return the house by form that the first rows, so many, write; they begin at line 1."""
    try:
        house = read_house("\n".join(rows[:many]))
    except InvalidText as why:
        raise InvalidText(why.line + 1, why.field) from None
    if len(rows) < many:
        raise InvalidText(len(rows) + 1, 0)
    return house


def _event_from(row, line):
    """Return the event by form that a row writes."""
    words = row.split(" ")
    _let_words(words, line, EVENT_KINDS.get(words[0]))
    if words[0] == "hour":
        return (words[0], int(words[1]))
    if words[0] == "set":
        return (words[0], words[1], setting_from(words[2:]))
    return tuple(words)
