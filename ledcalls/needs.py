"""What functions need of their parameters: NotUsable tells of a value that is not as stated."""

from ledcalls.errors import NotUsable
from ledcalls.housechecker import is_house
from ledcalls.kinds import HARMS, is_harms, is_hour, is_number, is_one_of
from ledcalls.plainparts import kind_named


def need_house(house, *, word="house"):
    """Raise NotUsable if any value is no house."""
    if not is_house(house):
        raise NotUsable(word, -1)


def need_name(house, name, *, word="name", kinds=("phone", "group", "box")):
    """Raise NotUsable if any value is not the name of a place of these kinds."""
    if kind_named(house, name) not in kinds:
        raise NotUsable(word, -1)


def need_called(house, called):
    """Raise NotUsable if any value is not the name of a place that can be called."""
    need_name(house, called, word="called")


def need_hour(hour):
    """Raise NotUsable if any value is no hour."""
    if not is_hour(hour):
        raise NotUsable("hour", -1)


def need_harm(harm):
    """Raise NotUsable if any value is none of the four harms."""
    if not is_one_of(harm, HARMS):
        raise NotUsable("harm", -1)


def need_harms(harms):
    """Raise NotUsable if any value is no tuple of different harms."""
    if not is_harms(harms):
        raise NotUsable("harms", -1)


def need_text(text):
    """Raise NotUsable if any value is no string."""
    if not isinstance(text, str):
        raise NotUsable("text", -1)


def need_limit(limit):
    """Raise NotUsable if any value is no number, as a limit is."""
    if not is_number(limit):
        raise NotUsable("limit", -1)
