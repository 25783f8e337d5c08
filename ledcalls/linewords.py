"""Words of lines: which can stand, what they write, and how values are written by them."""

from ledcalls.kinds import is_hours, is_name

HOUR_WORDS = (
    "0", "1", "2", "3", "4", "5", "6", "7", "8", "9", "10", "11",
    "12", "13", "14", "15", "16", "17", "18", "19", "20", "21", "22", "23")
CHOICES = {
    "edge": ("kept", "lost"),
    "side": ("0", "1"),
    "shows": ("own", "kept"),
    "way": ("together", "turns"),
}
FIRST_MEMBER = 6


def first_fault(words, kinds):
    """Return where the words behind the first one are not of these kinds, None if they are.

    That is the index of the first word that cannot stand, or how many words there are if one
    is missing.
    """
    for at, kind in enumerate(kinds, start=1):
        if at == len(words) or not _stands(kind, words, at):
            return at
    return len(kinds) + 1 if len(words) > len(kinds) + 1 else None


def _stands(kind, words, at):
    """Return whether the word at this index can stand as one of this kind, by what is ahead."""
    word = words[at]
    if kind in CHOICES:
        return word in CHOICES[kind]
    if kind == "hours":
        return word == "-" or _is_hours_word(word)
    if kind == "early" and words[at - 1] == "-":
        return word == "-"
    if kind == "link" and word == "-":
        return True
    if kind == "member" and word in words[FIRST_MEMBER:at]:
        return False
    return is_name(word)


def _is_hours_word(word):
    """Return whether a word is a nonempty set of hours in decimal with commas between."""
    parts = word.split(",")
    return all([part in HOUR_WORDS for part in parts]) and is_hours(hours_from(word))


def hours_from(word):
    """Return the hours that a word writes."""
    return () if word == "-" else tuple([int(part) for part in word.split(",")])


def name_from(word):
    """Return the name, or the empty string, that a word writes."""
    return "" if word == "-" else word


def setting_from(words):
    """Return the setting that five words write."""
    return (hours_from(words[0]), *[name_from(word) for word in words[1:]])


def name_word(name):
    """Return the word of a name, or of the empty string."""
    return "-" if name == "" else name


def setting_words(setting):
    """Return a list of the five words of a setting."""
    hours = ",".join([str(hour) for hour in setting[0]])
    return [name_word(hours), *[name_word(name) for name in setting[1:]]]
