"""Houses within others."""

from ledcalls.needs import need_house


def is_within(house, other):
    """Return whether house is other with fewer settings and bars, or as many."""
    need_house(house)
    need_house(other, word="other")
    border, bars, places = house
    wide_border, wide_bars, wide_places = other
    if border != wide_border or len(places) != len(wide_places):
        return False
    if not all([bar in wide_bars for bar in bars]):
        return False
    return all([_fits(place, wide) for place, wide in zip(places, wide_places)])


def _fits(place, wide):
    """Return whether a place is another one, perhaps with only some of its settings."""
    if place[0] != "phone":
        return place == wide
    return place[:4] == wide[:4] and all([setting in wide[4] for setting in place[4]])
