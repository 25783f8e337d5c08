"""Settings that are taken out, so that harms cannot happen."""

from ledcalls.errors import NotUsable
from ledcalls.kinds import HARMS
from ledcalls.needs import need_harms, need_house
from ledcalls.settingpairs import is_pair_set
from ledcalls.sorting import ascending
from ledcalls.takingsearch import least_sets


def least_taken(house, given, *, harms=HARMS):
    """Return the set of the least subsets of given that are enough against the harms."""
    need_house(house)
    if not is_pair_set(house, given):
        raise NotUsable("given", -1)
    need_harms(harms)
    return ascending(least_sets(house, given, harms))


def greatest_left(house, given, *, harms=HARMS):
    """Return the set of what stays of given without each of the least subsets."""
    least = least_taken(house, given, harms=harms)
    return ascending([tuple([pair for pair in given if pair not in taken]) for taken in least])
