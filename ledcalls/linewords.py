"""Words of lines: which can stand, what they write, and how values are written by them."""

from ledcalls.kinds import is_hours, is_name

HOUR_WORDS = (
    "0", "1", "2", "3", "4", "5", "6", "7", "8", "9", "10", "11",
    "12", "13", "14", "15", "16", "17", "18", "19", "20", "21", "22", "23")
CHOICES = {
    "edge": ("kept", "lost"),
    "side": ("0", "1"),
    "shows": ("own", "kept"),
    "way": ("together", "turns"),
    "standing": ("answers", "unheard", "busy", "off"),
}
DIGITS = "0123456789"
MOST_DIGITS = 60
FIRST_MEMBER = 6


def first_fault(words, kinds):
    """Return where the words behind the first one are not of these kinds, None if they are.

    That is the index of the first word that cannot stand, or how many words there are if one
    is missing.
    """
    for at, kind in enumerate(kinds, start=1):
        if at == len(words) or not _stands(kind, words, at):
            return at
    return len(kinds) + 1 if len(words) > len(kinds) + 1 else None


def _stands(kind, words, at):
    """Return whether the word at this index can stand as one of this kind, by what is ahead."""
    word = words[at]
    if kind in CHOICES:
        return word in CHOICES[kind]
    if kind in CHECKS:
        is_fit = CHECKS[kind]
        return is_fit(word)
    if kind == "early" and words[at - 1] == "-":
        return word == "-"
    if kind == "member" and word in words[FIRST_MEMBER:at]:
        return False
    return is_name(word)


def _is_link_word(word):
    """Return whether a word writes a name or the empty string."""
    return word == "-" or is_name(word)


def _is_hour_word(word):
    """Return whether a word is an hour in decimal."""
    return word in HOUR_WORDS


def _is_hours_word(word):
    """Return whether a word is a set of hours in decimal with commas between."""
    if word == "-":
        return True
    parts = word.split(",")
    return all([part in HOUR_WORDS for part in parts]) and is_hours(hours_from(word))


def _is_limit_word(word):
    """Return whether a word writes a number or None."""
    return word == "-" or _is_number_word(word)


def _is_many_word(word):
    """Return whether a word is a number of at least 1."""
    return word != "0" and _is_number_word(word)


def _is_number_word(word):
    """Return whether a word is a number in decimal, not too long and with no leading zero."""
    if not 1 <= len(word) <= MOST_DIGITS or not all([digit in DIGITS for digit in word]):
        return False
    return word == "0" or word[0] != "0"


CHECKS = {
    "link": _is_link_word, "hour": _is_hour_word, "hours": _is_hours_word, "limit": _is_limit_word,
    "many": _is_many_word}


def hours_from(word):
    """Return the hours that a word writes."""
    return () if word == "-" else tuple([int(part) for part in word.split(",")])


def name_from(word):
    """Return the name, or the empty string, that a word writes."""
    return "" if word == "-" else word


def setting_from(words):
    """Return the setting that five words write."""
    return (hours_from(words[0]), *[name_from(word) for word in words[1:]])


def name_word(name):
    """Return the word of a name, or of the empty string."""
    return "-" if name == "" else name


def setting_words(setting):
    """Return a list of the five words of a setting."""
    hours = ",".join([str(hour) for hour in setting[0]])
    return [name_word(hours), *[name_word(name) for name in setting[1:]]]
