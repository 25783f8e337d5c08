"""What can happen in a house, as objects."""

from ledcalls.errors import NotUsable
from ledcalls.harmsearch import find_harm
from ledcalls.housechanges import without_settings
from ledcalls.kinds import HARMS, is_one_of
from ledcalls.linewords import name_word
from ledcalls.needs import need_house, need_name
from ledcalls.plainparts import listed_names
from ledcalls.sorting import ascending


class Harms:
    """What can happen in a house; it never changes."""

    def __init__(self, house):
        need_house(house)
        self._look_at(house, HARMS)

    def _look_at(self, house, harms):
        """Look at these harms alone."""
        feared = ascending(harms)
        self._house = house
        self._feared = feared
        self._table = tuple([(name, _found(house, name, feared)) for name in listed_names(house)])
        self._harmed = tuple([name for name, found in self._table if found != ()])

    @property
    def house_now(self):
        """The triple of the house."""
        return self._house

    @property
    def feared_now(self):
        """The set of the harms that are looked at."""
        return self._feared

    @property
    def table_now(self):
        """The tuple of the pairs of the name of a place and the harms that can happen to it."""
        return self._table

    @property
    def harmless_now(self):
        """Whether none of the harms that are looked at can happen."""
        return self._harmed == ()

    def __getitem__(self, at):
        need_name(self._house, at)
        return _row_of(self._table, at)

    def __call__(self, name, harm):
        need_name(self._house, name)
        if not is_one_of(harm, self._feared):
            raise NotUsable("harm", -1)
        return find_harm(self._house, name, harm)

    def __contains__(self, x):
        return any([x in found for _, found in self._table])

    def __len__(self):
        return len(self._harmed)

    def __iter__(self):
        return iter(self._harmed)

    def __str__(self):
        return "\n".join([_row_text(name, found) for name, found in self._table])

    def __eq__(self, other):
        if not isinstance(other, Harms):
            return False
        return self.house_now == other.house_now and self.feared_now == other.feared_now

    def __le__(self, other):
        if not isinstance(other, Harms):
            raise NotUsable("other", -1)
        wide = other.table_now
        return all([harm in _row_of(wide, name) for name, found in self._table for harm in found])

    def without(self, taken):
        """Return the Harms of the house without these settings: of all four harms."""
        return Harms(without_settings(self._house, taken))


def _found(house, name, harms):
    """Return those of the harms that can happen to the place."""
    return tuple([harm for harm in harms if find_harm(house, name, harm) is not None])


def _row_of(table, name):
    """Return the harms that a table has for a name, () if it does not have the name."""
    for other, found in table:
        if other == name:
            return found
    return ()


def _row_text(name, found):
    """Return the line of a place: its name and its harms."""
    words = ",".join(found)
    return f"{name} {name_word(words)}"


class Feared(Harms):
    """What can happen in a house, some harms alone being looked at."""

    def __init__(self, house, *harms):
        need_house(house)
        for k, harm in enumerate(harms):
            if not is_one_of(harm, HARMS) or harm in harms[:k]:
                raise NotUsable("harms", k)
        self._look_at(house, harms)
