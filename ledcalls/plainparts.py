"""Parts of what is known to be a house; nothing is checked here."""

from ledcalls.sorting import ascending

SLOTS = {"hours": 1, "busy": 2, "unheard": 3, "off": 4}


def listed_names(house):
    """Return the names of the places, in their order."""
    return tuple([place[1] for place in house[2]])


def listed_phones(house):
    """Return the places that are phones, in their order."""
    return tuple([place for place in house[2] if place[0] == "phone"])


def own_in(house, row, name):
    """Return what the phone of this name has in a tuple of what each phone has."""
    names = [phone[1] for phone in listed_phones(house)]
    return row[names.index(name)]


def with_own(house, row, name, thing):
    """Return the tuple of what each phone has, with thing for the phone of this name."""
    phones = listed_phones(house)
    return tuple([thing if phone[1] == name else old for phone, old in zip(phones, row)])


def table_of(house):
    """Return a dict with the place of each name."""
    return {place[1]: place for place in house[2]}


def kind_named(house, thing):
    """Return the first word of the place that has any value as its name, or the empty string."""
    for place in house[2]:
        if place[1] == thing:
            return place[0]
    return ""


def find_place(house, name):
    """Return the place of this name."""
    table = table_of(house)
    return table[name]


def phones_within(table, name):
    """Return the names of the phones of a group, each where it comes first."""
    phones = []
    seen = {}
    waiting = [name]
    while waiting:
        member = waiting.pop()
        if member not in seen:
            seen[member] = True
            place = table[member]
            if place[0] == "phone":
                phones.append(member)
            else:
                # The first member is to be taken out first.
                waiting.extend(place[5][::-1])
    return tuple(phones)


def leads_in(house, hour):
    """Return the set of the leads in this hour."""
    leads = []
    for place in house[2]:
        if place[0] == "phone":
            leads.extend(_phone_leads(place, hour))
        if place[0] == "group" and place[6] != "":
            leads.append((place[1], "after", place[6]))
    return ascending(leads)


def _phone_leads(place, hour):
    """Return a list of the leads of a phone in this hour, perhaps some of them more than once."""
    leads = []
    for setting in place[4]:
        words = ("hours",) if hour in setting[0] else ("busy", "unheard", "off")
        for word in words:
            if setting[SLOTS[word]] != "":
                leads.append((place[1], word, setting[SLOTS[word]]))
    return leads


def reached_by(leads, name):
    """Return the set of the name and of all names to which the leads go from it."""
    found = [name]
    at = 0
    while at < len(found):
        for start, _, target in leads:
            if start == found[at] and target not in found:
                found.append(target)
        at = at + 1
    return ascending(found)
