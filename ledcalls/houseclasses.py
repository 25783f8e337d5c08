"""Houses as objects."""

from ledcalls.books import chosen_places, is_book
from ledcalls.errors import NotUsable
from ledcalls.housechanges import (
    moved, renamed, with_bars, with_border, with_place, with_settings, without_place,
    without_settings)
from ledcalls.housechecker import lets_house
from ledcalls.houseparts import leads_of, place_of
from ledcalls.housereadings import read_house
from ledcalls.housetexts import house_text
from ledcalls.plainparts import listed_names


class House:
    """A house; it never changes."""

    def __init__(self, border, bars, places):
        lets_house((border, bars, places))
        self._border = border
        self._bars = bars
        self._places = places
        self._names = listed_names((border, bars, places))

    @staticmethod
    def of(place, *places, border=("kept", "kept"), bars=()):
        """Return the House of these places, in their order."""
        return House(border, bars, (place, *places))

    @classmethod
    def read(cls, text):
        """Return the House that a string writes."""
        border, bars, places = read_house(text)
        return cls(border, bars, places)

    @property
    def border_now(self):
        """The border."""
        return self._border

    @property
    def bars_now(self):
        """The bars."""
        return self._bars

    @property
    def places_now(self):
        """The places."""
        return self._places

    @property
    def form_now(self):
        """The triple of the border, the bars and the places."""
        return (self._border, self._bars, self._places)

    @property
    def names_now(self):
        """The names of the places, in their order."""
        return self._names

    def __getitem__(self, at):
        return place_of(self.form_now, at)

    def __call__(self, hour):
        return leads_of(self.form_now, hour)

    def __contains__(self, x):
        return x in self._names

    def __len__(self):
        return len(self._names)

    def __iter__(self):
        return iter(self._names)

    def __str__(self):
        return str(house_text(self.form_now))

    def __eq__(self, other):
        return isinstance(other, House) and self.form_now == other.form_now

    def __le__(self, other):
        if not isinstance(other, House):
            raise NotUsable("other", -1)
        return all([place in other.places_now for place in self._places])

    def __add__(self, other):
        return _made(with_place(self.form_now, other))

    def ahead(self, place):
        """Return the House with this place ahead of all others."""
        return _made(with_place(self.form_now, place, spot=0))

    def __sub__(self, other):
        return _made(without_place(self.form_now, other))

    def __mod__(self, other):
        return _made(without_settings(self.form_now, other))

    def choosing(self, name, settings):
        """Return the House in which this phone has these settings."""
        return _made(with_settings(self.form_now, name, settings))

    def barring(self, bars):
        """Return the House with these bars instead."""
        return _made(with_bars(self.form_now, bars))

    def bordered(self, border):
        """Return the House with this border."""
        return _made(with_border(self.form_now, border))

    def shifted(self, name, side):
        """Return the House in which this place is on this side."""
        return _made(moved(self.form_now, name, side))

    def naming(self, old, new):
        """Return the House in which the place old is called new."""
        return _made(renamed(self.form_now, old, new))


def _made(form):
    """Return the House of a triple: of this class itself, whatever class it is made from."""
    return House(*form)


class Chosen(House):
    """A house in which each phone has its setting in a book alone."""

    def __init__(self, border, bars, places, book):
        source = (border, bars, places)
        lets_house(source)
        if not is_book(source, book):
            raise NotUsable("book", -1)
        super().__init__(border, bars, chosen_places(source, book))
        self._source = source
        self._book = book

    @property
    def source_now(self):
        """The triple of the border, the bars and the places as they were given."""
        return self._source

    @property
    def book_now(self):
        """The tuple of the setting of each phone."""
        return self._book
