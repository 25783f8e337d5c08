"""Houses and places that texts write."""

from ledcalls.errors import InvalidText, NotUsable
from ledcalls.kinds import is_number
from ledcalls.linewords import FIRST_MEMBER, first_fault, name_from, setting_from
from ledcalls.needs import need_text

KINDS = {
    "border": ("edge", "edge"),
    "phone": ("name", "side", "shows"),
    "setting": ("hours", "early", "link", "link", "link"),
    "group": ("name", "side", "shows", "way", "link", "member"),
    "box": ("name", "side"),
    "bar": ("name", "name"),
}
# The words with which a line can begin, by the word with which the line before it begins.
FOLLOWERS = {
    "border": ("phone", "group", "box"),
    "phone": ("setting",),
    "setting": ("setting", "phone", "group", "box", "bar"),
    "group": ("phone", "group", "box", "bar"),
    "box": ("phone", "group", "box", "bar"),
    "bar": ("bar",),
}


def read_place(text, *, line=0):
    """Return the place by form that a string writes."""
    need_text(text)
    if not is_number(line):
        raise NotUsable("line", -1)
    rows = _rows_in(text)
    _let_rows(rows, line=line, alone=True)
    return _places_from(rows)[0]


def read_house(text):
    """Return the triple by form that a string writes; it may be no house."""
    need_text(text)
    rows = _rows_in(text)
    _let_rows(rows, line=0, alone=False)
    bars = [tuple(words[1:]) for words in rows if words[0] == "bar"]
    return (tuple(rows[0][1:]), tuple(bars), _places_from(rows))


def _rows_in(text):
    """Return a list with the list of the words of each line."""
    return [row.split(" ") for row in text.split("\n")]


def _let_rows(rows, *, line, alone):
    """Raise InvalidText for the first row that is not possible, of a house or of a place alone."""
    before = None
    for k, words in enumerate(rows):
        fault = _row_fault(words, before, alone)
        if fault is not None:
            raise InvalidText(line + k, fault)
        before = words
    if before[0] in ("border", "phone"):
        raise InvalidText(line + len(rows), 0)


def _row_fault(words, before, alone):
    """Return the index of what is wrong in the words, behind the words before; None if nothing."""
    word = words[0]
    if word not in _firsts_behind(before, alone):
        return 0
    kinds = KINDS[word]
    if word == "group":
        kinds = (*kinds, *["member" for _ in words[FIRST_MEMBER + 1:]])
    fault = first_fault(words, kinds)
    last = len(kinds)
    if fault in (None, last + 1) and not _rises(before, words):
        return last
    return fault


def _firsts_behind(before, alone):
    """Return the words with which a row can begin behind the words before, None for no row."""
    if before is None:
        return FOLLOWERS["border"] if alone else ("border",)
    firsts = FOLLOWERS[before[0]]
    return tuple([word for word in firsts if word == "setting" or not alone])


def _rises(before, words):
    """Return whether a setting or a bar is greater than one just before it."""
    if before is None or before[0] != words[0]:
        return True
    if words[0] == "setting":
        return setting_from(before[1:]) < setting_from(words[1:6])
    return words[0] != "bar" or before[1:] < words[1:3]


def _places_from(rows):
    """Return the places that rows write which are possible."""
    places = []
    for words in rows:
        if words[0] in ("phone", "group", "box"):
            places.append(_place_from(words))
        if words[0] == "setting":
            places[-1] = _with_setting(places[-1], setting_from(words[1:]))
    return tuple(places)


def _with_setting(place, setting):
    """Return the phone with one more setting."""
    return (*place[:4], (*place[4], setting))


def _place_from(words):
    """Return the place that a row writes; a phone has no setting yet."""
    word, name, side, *rest = words
    if word == "phone":
        return (word, name, int(side), rest[0], ())
    if word == "group":
        shows, way, after, *members = rest
        return (word, name, int(side), shows, way, tuple(members), name_from(after))
    return (word, name, int(side))
