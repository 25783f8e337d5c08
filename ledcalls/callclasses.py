"""Calls as objects."""

from ledcalls.books import is_book
from ledcalls.callchecker import is_standings
from ledcalls.callneeds import need_call
from ledcalls.callreadings import read_call
from ledcalls.calltexts import call_text
from ledcalls.courses import course_of, rung_in
from ledcalls.errors import NotUsable
from ledcalls.harmshows import harms_shown
from ledcalls.kinds import STANDINGS, is_one_of, is_setting_among, is_tuple_of
from ledcalls.needs import need_called, need_hour, need_house, need_name
from ledcalls.plainparts import find_place, kind_named, own_in, with_own


class Call:
    """A call of a house; it never changes."""

    def __init__(self, house, called, hour, book, standings):
        need_house(house)
        need_called(house, called)
        need_hour(hour)
        if not is_book(house, book):
            raise NotUsable("book", -1)
        if not is_standings(house, standings):
            raise NotUsable("standings", -1)
        self._house = house
        self._called = called
        self._hour = hour
        self._book = book
        self._standings = standings

    @staticmethod
    def of(house, call):
        """Return the Call of a call."""
        need_call(house, call)
        return Call(house, *call)

    @classmethod
    def read(cls, house, text):
        """Return the Call that a string writes."""
        called, hour, book, standings = read_call(house, text)
        return cls(house, called, hour, book, standings)

    @property
    def house_now(self):
        """The triple of the house."""
        return self._house

    @property
    def called_now(self):
        """The name of the called place."""
        return self._called

    @property
    def hour_now(self):
        """The hour."""
        return self._hour

    @property
    def book_now(self):
        """The tuple of the setting of each phone."""
        return self._book

    @property
    def standings_now(self):
        """The tuple of the standing of each phone."""
        return self._standings

    @property
    def call_now(self):
        """The tuple of the called name, the hour, the book and the standings."""
        return (self._called, self._hour, self._book, self._standings)

    @property
    def course_now(self):
        """The course: the names of its places, and how it ends."""
        return course_of(self._house, self.call_now)

    @property
    def rung_now(self):
        """The tuple with the names of the phones that are rung at each place of the course."""
        return rung_in(self._house, self.call_now)

    @property
    def harms_now(self):
        """The set of the harms that the call shows."""
        return harms_shown(self._house, self.call_now)

    def at_hour(self, hour):
        """Return the Call in this hour."""
        return Call(self._house, self._called, hour, self._book, self._standings)

    def to(self, name):
        """Return the Call to this place."""
        need_name(self._house, name)
        return Call(self._house, name, self._hour, self._book, self._standings)

    def with_setting(self, name, setting):
        """Return the Call in which this phone has this setting."""
        need_name(self._house, name, kinds=("phone",))
        if not is_setting_among(setting, find_place(self._house, name)[4]):
            raise NotUsable("setting", -1)
        book = with_own(self._house, self._book, name, setting)
        return Call(self._house, self._called, self._hour, book, self._standings)

    def with_standing(self, name, standing):
        """Return the Call in which this phone has this standing."""
        need_name(self._house, name, kinds=("phone",))
        if not is_one_of(standing, STANDINGS):
            raise NotUsable("standing", -1)
        standings = with_own(self._house, self._standings, name, standing)
        return Call(self._house, self._called, self._hour, self._book, standings)

    def __mod__(self, other):
        return self.at_hour(other)

    def __add__(self, other):
        if not _is_standing_pair(self._house, other):
            raise NotUsable("pair", -1)
        name, standing = other
        return self.with_standing(name, standing)

    def __getitem__(self, at):
        need_name(self._house, at, kinds=("phone",))
        return (own_in(self._house, self._book, at), own_in(self._house, self._standings, at))

    def __contains__(self, x):
        return x in self.course_now[0]

    def __len__(self):
        return len(self.course_now[0])

    def __iter__(self):
        raise TypeError("a call has no iteration")

    def __eq__(self, other):
        if not isinstance(other, Call):
            return False
        return self.house_now == other.house_now and self.call_now == other.call_now

    def __str__(self):
        return str(call_text(self._house, self.call_now))


def _is_standing_pair(house, thing):
    """Return whether any value is a tuple of the name of a phone and a standing."""
    if not is_tuple_of(thing, 2) or kind_named(house, thing[0]) != "phone":
        return False
    return is_one_of(thing[1], STANDINGS)


class Harmless(Call):
    """A call that shows no harm."""

    def __init__(self, house, called, hour, book, standings):
        super().__init__(house, called, hour, book, standings)
        if self.harms_now != ():
            raise NotUsable("harm", -1)
