"""What functions need of their parameters: NotUsable tells of a value that is not as stated."""

from ledcalls.errors import NotUsable
from ledcalls.housechecker import is_house
from ledcalls.kinds import is_hour
from ledcalls.plainparts import kind_named


def need_house(house):
    """Raise NotUsable if any value is no house."""
    if not is_house(house):
        raise NotUsable("house", -1)


def need_name(house, name, *, word="name", kinds=("phone", "group", "box")):
    """Raise NotUsable if any value is not the name of a place of these kinds."""
    if kind_named(house, name) not in kinds:
        raise NotUsable(word, -1)


def need_hour(hour):
    """Raise NotUsable if any value is no hour."""
    if not is_hour(hour):
        raise NotUsable("hour", -1)
