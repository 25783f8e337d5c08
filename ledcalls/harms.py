"""The harms and the ends that calls to a place can have."""

from ledcalls.endsearch import find_end, found_ends
from ledcalls.errors import NotUsable
from ledcalls.harmsearch import find_harm
from ledcalls.kinds import HARMS, is_one_of, is_tuple_of
from ledcalls.needs import need_called, need_harm, need_harms, need_house
from ledcalls.plainparts import listed_names
from ledcalls.sorting import ascending

END_WORDS = ("answered", "boxed", "busy", "unheard", "off", "round")


def harms_of(house, called):
    """Return the set of the harms that can happen to called."""
    need_house(house)
    need_called(house, called)
    return ascending([harm for harm in HARMS if find_harm(house, called, harm) is not None])


def harm_call(house, called, harm):
    """Return a call to called that shows the harm, None if there is none."""
    need_house(house)
    need_called(house, called)
    need_harm(harm)
    return find_harm(house, called, harm)


def is_harmless(house, *, harms=HARMS):
    """Return whether none of these harms can happen to any place."""
    need_house(house)
    need_harms(harms)
    names = listed_names(house)
    return all([find_harm(house, name, harm) is None for harm in harms for name in names])


def ends_of(house, called):
    """Return the set of all ends of calls to called that do not go round."""
    need_house(house)
    need_called(house, called)
    return ascending(found_ends(house, called))


def end_call(house, called, end):
    """Return a call to called with this end, None if there is none."""
    need_house(house)
    need_called(house, called)
    if not _is_end(house, end):
        raise NotUsable("end", -1)
    return find_end(house, called, end)


def _is_end(house, thing):
    """Return whether any value is a pair of a word of ends and the name of a place."""
    if not is_tuple_of(thing, 2) or not is_one_of(thing[0], END_WORDS):
        return False
    return is_one_of(thing[1], listed_names(house))
